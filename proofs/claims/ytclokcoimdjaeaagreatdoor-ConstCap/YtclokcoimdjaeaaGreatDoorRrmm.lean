/- The second road's digits: cmp, add, sub of magnitudes. -/
import Derived.Test.YtclokcoimdjaeaaGreatDoorNum
import Derived.Test.YtclokcoimdjaeaaGreatDoorKrm
import Derived.Laws.CopyOwn
namespace Go.Proofs.YtclokcoimdjaeaaGreatDoor
open Go.RowKit
theorem Tryz.info3 : (Tryz.prog.info? 3).map (fun i => (i.zero, i.size, i.bytes)) = some (some (.int .i64 0), 1, 8) := by kernel_rfl
theorem mk28 (m : Int) (h0 : 0 ≤ m) (h1 : m ≤ 1000000000) (w : World) : (Instr.makeSlice 36 (.int .i64 m) (.int .i64 m)).run Tryz.prog w = .ok (.slice (some ⟨w.heap.size, 0, none⟩) m.toNat m.toNat) (w.alloc (.cells (cellsOf .i64 (zeros m.toNat)) 3)) :=
  run_zeros 36 3 .i64 8 Tryz.underlying36 Tryz.info3 m h0 (by omega) (by omega) w
/-- A row that is nought from n on. -/
theorem val_zero_tail (B : Int) (zs : List Int) (n : Nat) (h : ∀ i, n ≤ i → zs[i]?.getD 0 = 0) : val B (zs.take n) = val B zs := by
  have key : ∀ k, val B (zs.take (n + k)) = val B (zs.take n) := by
    intro k
    induction k with
    | zero => rfl
    | succ k ih => rw [← Nat.add_assoc, val_take_succ, h (n + k) (by omega), ih]; simp
  rw [← key zs.length, List.take_of_length_le (by omega)]
theorem Row.at_out {zs : List Int} {k : Nat} (h : ¬ k < zs.length) : zs[k]?.getD 0 = 0 := by rw [List.getElem?_eq_none (by omega)]; rfl
set_option maxHeartbeats 1000000 in
theorem rcmp_any (x y : Option Addr) (ca cb : Nat) (xs ys : List Int) (w : World) (ha : Row w .i64 65536 x ca xs) (hb : Row w .i64 65536 y cb ys) (_hl : xs.length ≤ 1000000) (hlb : ys.length ≤ 1000000) (nx : nrm xs) (ny : nrm ys) :
    Calls Tryz.prog 216 #[.slice x xs.length ca, .slice y ys.length cb] w fun e w' => e = .returned (.int .i64 (cmpI (val 65536 xs) (val 65536 ys))) ∧ Below w.heap.size w w' := by
  by_cases h : xs.length = ys.length
  case neg =>
    have h' : ((xs.length : Int) != (ys.length : Int)) = true := by rw [bne_iff_ne]; omega
    by_cases hh : xs.length < ys.length
    · rw [cmpI_lt (cmp_len (by decide) ha.words hb.words ny hh)]
      have h2 : (xs.length : Int) < (ys.length : Int) := by omega
      clear hh h
      go_enter Tryz.func216, Tryz.ntmps216
      go_wp2
      go_ret
      exact ⟨rfl, Below.refl _ _⟩
    · rw [cmpI_gt (cmp_len (by decide) hb.words ha.words nx (by omega))]
      have h2 : ¬ (xs.length : Int) < (ys.length : Int) := by omega
      clear hh h
      go_enter Tryz.func216, Tryz.ntmps216
      go_wp2
      go_ret
      exact ⟨rfl, Below.refl _ _⟩
  case pos =>
    rw [h]
    have H : Hid (xs.length = ys.length) := h
    have hbx := ha.words
    have hby := hb.words
    clear h _hl
    go_enter Tryz.func216, Tryz.ntmps216
    go_wp2
    go_loopw [5] (fun t wr => ∃ k : Nat, k ≤ ys.length ∧ t = .int .i64 (k - 1) ∧ Hid (val 65536 (xs.drop k) = val 65536 (ys.drop k)) ∧ Below w.heap.size w wr) (fun t _ => (intOf t + 1).toNat)
    case atStart => exact ⟨ys.length, Nat.le_refl _, rfl, by show val _ _ = val _ _; rw [List.drop_eq_nil_of_le (by have := H.out; omega), List.drop_eq_nil_of_le (by omega)], Below.refl _ _⟩
    case round =>
      obtain ⟨k, hk, rfl, HV, hbel⟩ := hrel
      cases k with
      | zero =>
        go_wp2
        go_ret
        refine ⟨ret_int ?_, hbel⟩
        have e := HV.out
        simp only [List.drop_zero] at e
        rw [cmpI_eq e]
      | succ k =>
        have hlx : k < xs.length := by have := H.out; omega
        obtain ⟨x, rfl⟩ := ha.some_of hlx
        obtain ⟨y, rfl⟩ := hb.some_of (i := k) (by omega)
        have hca := (ha.next hbel).cell x rfl k hlx
        have hcb := (hb.next hbel).cell y rfl k (by omega)
        obtain ⟨p, hp, hp0, hp1⟩ := ha.words.get (by decide) k
        obtain ⟨q, hq, hq0, hq1⟩ := hb.words.get (by decide) k
        rw [hp] at hca
        rw [hq] at hcb
        have HP : Hid (xs[k]?.getD 0 = p) := hp
        have HQ : Hid (ys[k]?.getD 0 = q) := hq
        clear hp hq
        have hk0 : (0 : Int) ≤ (k : Int) := by omega
        have hk1 : (k : Int) < (ys.length : Int) := by omega
        clear hlx
        by_cases hpq : p < q
        · have HC : Hid (cmpI (val 65536 xs) (val 65536 ys) = -1) := cmpI_lt (cmp_top (by decide) hbx hby H.out (i := k) (by have := H.out; omega) HV.out (by rw [HP.out, HQ.out]; exact hpq))
          go_wp2
          go_quiet (fail)
          go_wp2
          go_ret
          exact ⟨by rw [HC.out]; rfl, below_drewN hbel _⟩
        · by_cases hqp : q < p
          · have HC : Hid (cmpI (val 65536 xs) (val 65536 ys) = 1) := cmpI_gt (cmp_top (by decide) hby hbx H.out.symm (i := k) (by omega) HV.out.symm (by rw [HP.out, HQ.out]; exact hqp))
            have hqp' : p > q := hqp
            clear hqp
            go_wp2
            go_quiet (fail)
            have hbel2 : Below w.heap.size w (wr.drewN nq) := below_drewN hbel nq
            generalize wr.drewN nq = w2 at *
            have hca2 := (ha.next hbel2).cell x rfl k (by have := H.out; omega)
            have hcb2 := (hb.next hbel2).cell y rfl k (by omega)
            rw [HP.out] at hca2
            rw [HQ.out] at hcb2
            clear hca hcb
            go_wp2
            go_quiet (fail)
            go_wp2
            go_ret
            exact ⟨by rw [HC.out]; rfl, below_drewN hbel2 _⟩
          · have HPQ : Hid (p = q) := by show p = q; omega
            have hqp' : ¬ p > q := hqp
            clear hqp
            go_wp2
            go_quiet (fail)
            have hbel2 : Below w.heap.size w (wr.drewN nq) := below_drewN hbel nq
            generalize wr.drewN nq = w2 at *
            have hca2 := (ha.next hbel2).cell x rfl k (by have := H.out; omega)
            have hcb2 := (hb.next hbel2).cell y rfl k (by omega)
            rw [HP.out] at hca2
            rw [HQ.out] at hcb2
            clear hca hcb
            go_wp2
            go_quiet (fail)
            go_wp2
            go_roundw
            case rel => exact ⟨k, by omega, rfl, by show val _ _ = val _ _; rw [val_drop _ xs, val_drop _ ys, HV.out, HP.out, HQ.out, HPQ.out], below_drewN hbel2 _⟩
            case measure => simp [intOf]
end Go.Proofs.YtclokcoimdjaeaaGreatDoor
namespace Go.Proofs.YtclokcoimdjaeaaGreatDoor
open Go.RowKit
theorem mul_dig {p s : Int} (hp0 : 0 ≤ p) (hp1 : p < 65536) (hs0 : 0 ≤ s) (hs1 : s < 65536) : 0 ≤ p * s ∧ p * s ≤ 4294836225 := by
  refine ⟨Int.mul_nonneg hp0 hs0, ?_⟩
  have h1 : p * s ≤ 65535 * s := Int.mul_le_mul_of_nonneg_right (by omega) hs0
  omega
theorem rmul_end {xs ys zs ss : List Int} {i j : Nat} {s : Int} (hx : xs[i]?.getD 0 = s) (hz : val 65536 zs = val 65536 (xs.take i) * val 65536 ys) (hj : ys.length ≤ j)
    (hzz : ∀ t, i + ys.length ≤ t → zs[t]?.getD 0 = 0) (hss : ∀ t, i + j ≤ t → ss[t]?.getD 0 = zs[t]?.getD 0)
    (h : val 65536 (ss.take (i + j)) + 0 * 65536 ^ (i + j) = val 65536 (zs.take (i + j)) + s * val 65536 (ys.take j) * 65536 ^ i) : val 65536 ss = val 65536 (xs.take (i + 1)) * val 65536 ys := by
  rw [val_zero_tail _ ss (i + j) (fun t ht => by rw [hss t ht, hzz t (by omega)]), val_zero_tail _ zs (i + j) (fun t ht => hzz t (by omega)), take_all (by omega : ys.length ≤ j), hz] at h
  rw [val_take_succ, hx, Int.add_mul]
  have e : s * 65536 ^ i * val 65536 ys = s * val 65536 ys * 65536 ^ i := by rw [Int.mul_assoc, Int.mul_comm (65536 ^ i), ← Int.mul_assoc]
  rw [e]; omega
set_option maxHeartbeats 2000000 in
theorem rmul_any (x y : Option Addr) (ca cb : Nat) (xs ys : List Int) (w : World) (ha : Row w .i64 65536 x ca xs) (hb : Row w .i64 65536 y cb ys) (hl : xs.length ≤ 1000000) (hlb : ys.length ≤ 1000000) :
    Calls Tryz.prog 176 #[.slice x xs.length ca, .slice y ys.length cb] w fun e w' => ∃ a' cap' ds, e = .returned (.slice a' ds.length cap') ∧ Rown w' w.heap.size a' cap' ds ∧ nrm ds ∧ val 65536 ds = val 65536 xs * val 65536 ys ∧ ds.length ≤ xs.length + ys.length + 1 ∧ Below w.heap.size w w' := by
  have hmk := mk28 ((xs.length : Int) + (ys.length : Int) + 1) (by omega) (by omega) w
  rw [show ((xs.length : Int) + (ys.length : Int) + 1).toNat = xs.length + ys.length + 1 from by omega] at hmk
  go_enter Tryz.func176, Tryz.ntmps176
  go_wp2
  go_loopw [6, 7, 8] (fun i u7 u8 wr => ∃ (k : Nat) (zs : List Int), k ≤ xs.length ∧ i = .int .i64 k ∧ Blk wr w.heap.size .i64 3 (xs.length + ys.length + 1) zs ∧ zs.length = xs.length + ys.length + 1 ∧ Words 65536 zs ∧ Hid (val 65536 zs = val 65536 (xs.take k) * val 65536 ys) ∧ Hid (∀ t, k + ys.length ≤ t → zs[t]?.getD 0 = 0) ∧ Below w.heap.size w wr) (fun i _ _ _ => xs.length - (intOf i).toNat)
  case atStart => exact ⟨0, zeros (xs.length + ys.length + 1), Nat.zero_le _, rfl, by have := Blk.new w .i64 3 (zeros (xs.length + ys.length + 1)) (by rw [zeros_len]; unfold maxLen; omega); rwa [zeros_len] at this, zeros_len _, zeros_words (by decide) _, by show val _ _ = _; rw [zeros_val]; simp [val], fun t _ => zeros_at _ t, (Below.refl _ _).alloc (Nat.le_refl _) _⟩
  case round =>
    obtain ⟨k, zs, hk, rfl, hblk0, hzl, hzw, HZ, HZZ, hbel0⟩ := hrel
    by_cases hlt : k < xs.length
    · obtain ⟨x, rfl⟩ := ha.some_of hlt
      obtain ⟨s, hs, hs0, hs1⟩ := ha.words.get (by decide) k
      have HSX : Hid (xs[k]?.getD 0 = s) := hs
      clear hs
      go_wp2
      go_loopw [7, 8] (fun c j wr' => ∃ (t : Nat) (cc : Int) (ss : List Int), t ≤ ys.length + 1 ∧ j = .int .i64 t ∧ c = .int .i64 cc ∧ 0 ≤ cc ∧ cc < 65536 ∧ (t = ys.length + 1 → cc = 0) ∧ Blk wr' w.heap.size .i64 3 (xs.length + ys.length + 1) ss ∧ ss.length = xs.length + ys.length + 1 ∧ Words 65536 ss ∧ Hid (∀ i, k + t ≤ i → ss[i]?.getD 0 = zs[i]?.getD 0) ∧ Hid (val 65536 (ss.take (k + t)) + cc * 65536 ^ (k + t) = val 65536 (zs.take (k + t)) + s * val 65536 (ys.take t) * 65536 ^ k) ∧ Below w.heap.size w wr') (fun _ j _ => ys.length + 1 - (intOf j).toNat)
      case atStart => exact ⟨0, 0, zs, Nat.zero_le _, rfl, rfl, by omega, by omega, fun _ => rfl, hblk0, hzl, hzw, fun _ _ => rfl, by simp [val, Hid], hbel0⟩
      case round =>
        obtain ⟨t, cc, ss, ht, rfl, rfl, hc0, hc1, hcz, hblk, hsl, hsw, HE, HV, hbel⟩ := hrel
        by_cases htl : t < ys.length
        · obtain ⟨y, rfl⟩ := hb.some_of htl
          obtain ⟨p, hp, hp0, hp1⟩ := hb.words.get (by decide) t
          obtain ⟨q, hq, hq0, hq1⟩ := hsw.get (by decide) (k + t)
          have hca := (ha.next hbel).cell x rfl k hlt
          have hcb := (hb.next hbel).cell y rfl t htl
          have hcs := hblk.cell (k + t) (by omega)
          have hfr := hblk.frozen (k + t)
          have hzq : zs[k + t]?.getD 0 = q := by rw [← HE.out (k + t) (Nat.le_refl _)]; exact hq
          have HS : Hid (Hid (val 65536 ((ss.set (k + t) ((p * s + q + cc) % 65536)).take (k + (t + 1))) + ((p * s + q + cc) / 65536) * 65536 ^ (k + (t + 1)) = val 65536 (zs.take (k + (t + 1))) + s * val 65536 (ys.take (t + 1)) * 65536 ^ k)) := scale_step (by omega) hp hzq HV.out
          rw [show p * s + q + cc = cc + q + s * p from by rw [Int.mul_comm p s]; omega] at HS
          have hm := mul_dig hs0 hs1 hp0 hp1
          rw [HSX.out] at hca
          rw [hp] at hcb
          rw [hq] at hcs
          clear hp hq HV hzq hcz
          go_wp2
          go_quiet (fail)
          have hblk' : Blk (wr.drewN nq) w.heap.size .i64 3 (xs.length + ys.length + 1) ss := hblk.below (below_drewN (Below.refl (wr.heap.size) _) nq) hblk.lt
          have hbel' : Below w.heap.size w (wr.drewN nq) := below_drewN hbel nq
          generalize wr.drewN nq = w2 at *
          have hcs' := hblk'.cell (k + t) (by omega)
          have hfr' := hblk'.frozen (k + t)
          generalize ss[k + t]?.getD 0 = old at hcs'
          clear hcs hfr hca hcb hblk hbel
          go_wp2
          go_roundw
          case rel => exact ⟨t + 1, _, _, by omega, by go_num, rfl, by omega, by omega, by omega, hblk'.set (k + t) _, by simpa using hsl, hsw.set (k + t) (by omega), fun i hi => by rw [List.getElem?_set_ne (by omega)]; exact HE.out i (by omega), HS, hbel'.setCell (Nat.le_refl _) _⟩
          case measure => simp [intOf]; omega
        · by_cases hcp : 0 < cc
          · have hte : t = ys.length := by
              by_cases h : t = ys.length + 1
              · have := hcz h; omega
              · omega
            have hcs := hblk.cell (k + t) (by omega)
            have hfr := hblk.frozen (k + t)
            have hzq : zs[k + t]?.getD 0 = 0 := HZZ.out (k + t) (by omega)
            have hq : ss[k + t]?.getD 0 = 0 := by rw [HE.out (k + t) (Nat.le_refl _)]; exact hzq
            have HS : Hid (Hid (val 65536 ((ss.set (k + t) ((0 * s + 0 + cc) % 65536)).take (k + (t + 1))) + ((0 * s + 0 + cc) / 65536) * 65536 ^ (k + (t + 1)) = val 65536 (zs.take (k + (t + 1))) + s * val 65536 (ys.take (t + 1)) * 65536 ^ k)) := scale_step (by omega) (Row.at_out htl) hzq HV.out
            rw [show (0 : Int) * s + 0 + cc = cc + 0 from by omega, Int.add_zero] at HS
            rw [hq] at hcs
            have hcp' : cc > 0 := hcp
            clear hq HV hzq hcz
            have ht2 : t ≤ ys.length := by omega
            replace hte : Hid _ := hte
            go_wp2
            go_roundw
            case rel => exact ⟨t + 1, _, _, by omega, by go_num, rfl, by omega, by omega, by omega, hblk.set (k + t) _, by simpa using hsl, hsw.set (k + t) (by omega), fun i hi => by rw [List.getElem?_set_ne (by omega)]; exact HE.out i (by omega), HS, hbel.setCell (Nat.le_refl _) _⟩
            case measure => simp [intOf]; omega
          · obtain rfl : cc = 0 := by omega
            have HS := rmul_end HSX.out HZ.out (by omega) HZZ.out HE.out HV.out
            replace HS : Hid _ := HS
            clear HV hcz
            go_wp2
            go_roundw
            case rel => exact ⟨k + 1, ss, by omega, by go_num, hblk, hsl, hsw, HS, fun i hi => by rw [HE.out i (by omega)]; exact HZZ.out i (by omega), hbel⟩
            case measure => simp [intOf]; omega
    · obtain rfl : k = xs.length := by omega
      have HV' := HZ.out
      rw [take_all (Nat.le_refl _)] at HV'
      replace HV' : Hid _ := HV'
      have hrw := hblk0.row hzw
      have htr := rtrim_any _ _ zs wr hrw
      rw [hzl] at htr
      go_wp2_with fail
      refine Calls.mono htr ?_
      rintro e w' ⟨rfl, rfl⟩
      go_wp2
      go_ret
      exact ⟨_, _, trimmed zs, rfl, ⟨hrw.cutTrim, fun x hx => by cases hx; exact Nat.le_refl _⟩, trimmed_nrm zs, by rw [trimmed_val]; exact HV'.out, by have := trimmed_le zs; omega, hbel0⟩
end Go.Proofs.YtclokcoimdjaeaaGreatDoor
namespace Go.Proofs.YtclokcoimdjaeaaGreatDoor
open Go.RowKit
attribute [local go_sem ↓] Go.wp_at_zero Go.wp_at_succ
set_option maxHeartbeats 1000000 in
theorem small_any (x : Option Addr) (ca : Nat) (xs : List Int) (d : Int) (w : World) (ha : Row w .i64 65536 x ca xs) (hl : xs.length ≤ 1000000) (hd0 : 0 < d) (hd1 : d ≤ 65536) :
    Calls Tryz.prog 231 #[.slice x xs.length ca, .int .i64 d] w fun e w' => ∃ a' cap' qs r, e = .returned (.tuple #[.slice a' qs.length cap', .int .i64 r]) ∧ Rown w' w.heap.size a' cap' qs ∧ nrm qs ∧ val 65536 xs = d * val 65536 qs + r ∧ 0 ≤ r ∧ r < d ∧ qs.length ≤ xs.length ∧ Below w.heap.size w w' := by
  have hmk := mk28 (xs.length : Int) (by omega) (by omega) w
  rw [show (xs.length : Int).toNat = xs.length from by omega] at hmk
  have hdz : d ≠ 0 := by omega
  go_enter Tryz.func231, Tryz.ntmps231
  go_wp2
  go_loopw [7, 8] (fun r i wr => ∃ (k : Nat) (rr : Int) (ss : List Int), k ≤ xs.length ∧ i = .int .i64 (k - 1) ∧ r = .int .i64 rr ∧ 0 ≤ rr ∧ rr < d ∧ Blk wr w.heap.size .i64 3 xs.length ss ∧ Hid (ss.length = xs.length) ∧ Words 65536 ss ∧ Hid (val 65536 (xs.drop k) = d * val 65536 (ss.drop k) + rr) ∧ Below w.heap.size w wr) (fun _ i _ => (intOf i + 1).toNat)
  case atStart => exact ⟨xs.length, 0, zeros xs.length, Nat.le_refl _, rfl, rfl, by omega, by omega, by have := Blk.new w .i64 3 (zeros xs.length) (by rw [zeros_len]; unfold maxLen; omega); rwa [zeros_len] at this, zeros_len _, zeros_words (by decide) _, by show _ = _; rw [List.drop_eq_nil_of_le (by omega), List.drop_eq_nil_of_le (by rw [zeros_len]; omega)]; simp [val], (Below.refl _ _).alloc (Nat.le_refl _) _⟩
  case round =>
    obtain ⟨k, rr, ss, hk, rfl, rfl, hr0, hr1, hblk, hsl, hsw, HV, hbel⟩ := hrel
    cases k with
    | zero =>
      have HV' := HV.out
      simp only [List.drop_zero] at HV'
      replace HV' : Hid _ := HV'
      have hrw := hblk.row hsw
      have htr := rtrim_any _ _ ss wr hrw
      rw [hsl.out] at htr
      replace htr : Hid _ := htr
      go_wp2_with fail
      refine Calls.mono htr.out ?_
      rintro e w' ⟨rfl, rfl⟩
      go_wp2
      go_ret2
      exact ⟨_, _, trimmed ss, rr, rfl, ⟨hrw.cutTrim, fun x hx => by cases hx; exact Nat.le_refl _⟩, trimmed_nrm ss, by rw [trimmed_val]; exact HV'.out, hr0, hr1, by have := trimmed_le ss; have := hsl.out; omega, hbel⟩
    | succ k =>
      obtain ⟨x, rfl⟩ := ha.some_of (i := k) (by omega)
      obtain ⟨p, hp, hp0, hp1⟩ := ha.words.get (by decide) k
      have hca := (ha.next hbel).cell x rfl k (by omega)
      have hsk : k < ss.length := by have := hsl.out; omega
      have hcs := hblk.cell k hsk
      have hfr := hblk.frozen k
      rw [hp] at hca
      generalize ss[k]?.getD 0 = old at hcs
      have HS : Hid (Hid (val 65536 (xs.drop k) = d * val 65536 ((ss.set k ((rr * 65536 + p) / d)).drop k) + (rr * 65536 + p) % d)) := div_step hsk hp (by have := Int.emod_add_mul_ediv (rr * 65536 + p) d; omega) HV.out
      have hq0 : 0 ≤ (rr * 65536 + p) / d := Int.ediv_nonneg (by omega) (by omega)
      have hq1 : (rr * 65536 + p) / d < 65536 := Int.ediv_lt_of_lt_mul hd0 (by
        have : (rr + 1) * 65536 ≤ d * 65536 := Int.mul_le_mul_of_nonneg_right (by omega) (by omega)
        omega)
      have hm0 := Int.emod_nonneg (rr * 65536 + p) (b := d) (by omega)
      have hm1 := Int.emod_lt_of_pos (rr * 65536 + p) hd0
      have ht1 : (rr * 65536 + p).tdiv d = (rr * 65536 + p) / d := Int.tdiv_eq_ediv_of_nonneg (by omega)
      have ht2 : (rr * 65536 + p).tmod d = (rr * 65536 + p) % d := Int.tmod_eq_emod_of_nonneg (by omega)
      clear hp HV hsk
      go_wp2
      go_roundw
      case rel => exact ⟨k, _, _, by omega, rfl, rfl, hm0, hm1, hblk.set k _, by show _ = _; rw [List.length_set]; exact hsl.out, hsw.set k ⟨hq0, hq1⟩, HS, hbel.setCell (Nat.le_refl _) _⟩
      case measure => simp [intOf]
set_option maxHeartbeats 1000000 in
theorem times_any (x : Option Addr) (ca : Nat) (xs : List Int) (f : Int) (w : World) (ha : Row w .i64 65536 x ca xs) (hl : xs.length ≤ 1000000) (hf0 : 0 ≤ f) (hf1 : f < 65536) :
    Calls Tryz.prog 232 #[.slice x xs.length ca, .int .i64 f] w fun e w' => ∃ ss, e = .returned (.slice (some ⟨w.heap.size, 0, none⟩) ss.length ss.length) ∧ Blk w' w.heap.size .i64 3 ss.length ss ∧ ss.length = xs.length + 1 ∧ Words 65536 ss ∧ val 65536 ss = val 65536 xs * f ∧ Below w.heap.size w w' := by
  have hmk := mk28 ((xs.length : Int) + 1) (by omega) (by omega) w
  rw [show ((xs.length : Int) + 1).toNat = xs.length + 1 from by omega] at hmk
  go_enter Tryz.func232, Tryz.ntmps232
  go_wp2
  go_loopw [6, 7] (fun cy i wr => ∃ (k : Nat) (cc : Int) (ss : List Int), k ≤ xs.length ∧ i = .int .i64 k ∧ cy = .int .i64 cc ∧ 0 ≤ cc ∧ cc < 65536 ∧ Blk wr w.heap.size .i64 3 (xs.length + 1) ss ∧ Hid (ss.length = xs.length + 1) ∧ Words 65536 ss ∧ Hid (val 65536 (ss.take k) + cc * 65536 ^ k = val 65536 (xs.take k) * f) ∧ Below w.heap.size w wr) (fun _ i _ => xs.length - (intOf i).toNat)
  case atStart => exact ⟨0, 0, zeros (xs.length + 1), Nat.zero_le _, rfl, rfl, by omega, by omega, by have := Blk.new w .i64 3 (zeros (xs.length + 1)) (by rw [zeros_len]; unfold maxLen; omega); rwa [zeros_len] at this, zeros_len _, zeros_words (by decide) _, by simp [val, Hid], (Below.refl _ _).alloc (Nat.le_refl _) _⟩
  case round =>
    obtain ⟨k, cc, ss, hk, rfl, rfl, hc0, hc1, hblk, hsl, hsw, HV, hbel⟩ := hrel
    by_cases hlt : k < xs.length
    · obtain ⟨x, rfl⟩ := ha.some_of hlt
      obtain ⟨p, hp, hp0, hp1⟩ := ha.words.get (by decide) k
      have hca := (ha.next hbel).cell x rfl k hlt
      have hsk : k < ss.length := by have := hsl.out; omega
      have hcs := hblk.cell k hsk
      have hfr := hblk.frozen k
      rw [hp] at hca
      generalize ss[k]?.getD 0 = old at hcs
      have HS : Hid (Hid (val 65536 ((ss.set k ((p * f + cc) % 65536)).take (k + 1)) + ((p * f + cc) / 65536) * 65536 ^ (k + 1) = val 65536 (xs.take (k + 1)) * f)) := shl_step hsk hp HV.out
      rw [show p * f + cc = cc + p * f from by omega] at HS
      have hm := mul_dig hp0 hp1 hf0 hf1
      clear hp HV hsk
      go_wp2
      go_roundw
      case rel => exact ⟨k + 1, _, _, by omega, by go_num, rfl, by omega, by omega, hblk.set k _, by show _ = _; rw [List.length_set]; exact hsl.out, hsw.set k (by omega), HS, hbel.setCell (Nat.le_refl _) _⟩
      case measure => simp [intOf]; omega
    · obtain rfl : k = xs.length := by omega
      have hcs := hblk.cell xs.length (by rw [hsl.out]; omega)
      have hfr := hblk.frozen xs.length
      generalize ss[xs.length]?.getD 0 = old at hcs
      have HS : Hid (val 65536 (ss.set xs.length cc) = val 65536 xs * f) := by
        have e := HV.out
        rw [take_all (zs := xs) (Nat.le_refl _)] at e
        show _ = _
        rw [← e, ← val_set_take _ _ _ _ (by rw [hsl.out]; omega), take_all (by rw [List.length_set, hsl.out]; omega)]
      clear HV
      have hsl' : (ss.set xs.length cc).length = xs.length + 1 := by rw [List.length_set]; exact hsl.out
      replace hsl' : Hid _ := hsl'
      go_wp2
      go_ret
      exact ⟨ss.set xs.length cc, by rw [hsl'.out]; rfl, by rw [hsl'.out]; exact hblk.set _ _, hsl'.out, hsw.set _ (by omega), HS.out, hbel.setCell (Nat.le_refl _) _⟩
end Go.Proofs.YtclokcoimdjaeaaGreatDoor
namespace Go.Proofs.YtclokcoimdjaeaaGreatDoor
open Go.RowKit
attribute [local go_sem ↓] Go.wp_at_zero Go.wp_at_succ
theorem Blk.full {w : World} {g : Nat} {k : IntKind} {T : TypeId} {n : Nat} {zs : List Int} (h : Blk w g k T n zs) (hn : zs.length = n) : w.heap[g]? = some (.cells (zs.map (Value.int k)).toArray T (0, 0)) := by
  obtain ⟨cur, hh, hs, hl, _, hc⟩ := h
  have e : cur = (zs.map (Value.int k)).toArray := by
    apply Array.ext
    · simp; omega
    · intro i h1 h2
      have h3 : i < zs.length := by simpa using h2
      have := hc i h3
      rw [Array.getElem?_eq_getElem h1, List.getElem?_eq_getElem h3] at this
      simpa using this
  rw [← e]; exact hh
theorem Blk.setRow {w : World} {g : Nat} {k : IntKind} {T : TypeId} {n : Nat} {zs : List Int} (h : Blk w g k T n zs) (hn : zs.length = n) (zs' : List Int) (hl : zs'.length = n) : Blk (w.setRow g (zs'.map (Value.int k)).toArray) g k T n zs' := by
  refine ⟨(zs'.map (Value.int k)).toArray, ?_, by simpa using hl, by omega, h.max, fun i hi => ?_⟩
  · have := setRow_heap w g _ (zs'.map (Value.int k)).toArray T _ (h.full hn)
    simpa using this
  · simp [hi]
theorem grown_setRow (w : World) (g : Nat) (cs : Array Value) : w.grownBy (w.setRow g cs) (some g) :=
  ⟨rfl, rfl, rfl, by simp [World.setRow], fun k _ hne => setRow_other w g k cs (fun e => hne (by rw [e]))⟩
theorem Row.grown {w w' : World} {g : Nat} {k : IntKind} {B : Int} {a : Option Addr} {cap : Nat} {zs : List Int} (h : Row w k B a cap zs) (hg : w.grownBy w' (some g)) (hne : ∀ x, a = some x → x.block ≠ g) : Row w' k B a cap zs :=
  ⟨h.le, h.max, h.nil, fun x hx i hi => (World.cell?_of_block (hg.block _ (cell_lt (h.cell x hx i hi)) (by rw [add_block]; simpa using hne x hx))).trans (h.cell x hx i hi), h.words⟩
theorem Row.frame {w w' : World} {k : IntKind} {B : Int} {a : Option Addr} {cap : Nat} {zs : List Int} (h : Row w k B a cap zs) (hf : ∀ x, a = some x → x.block < w.heap.size → w'.heap[x.block]? = w.heap[x.block]?) : Row w' k B a cap zs :=
  ⟨h.le, h.max, h.nil, fun x hx i hi => (World.cell?_of_block (by rw [add_block]; exact hf x hx (by have := cell_lt (h.cell x hx i hi); rwa [add_block] at this))).trans (h.cell x hx i hi), h.words⟩
/-- A part of a row put anew. -/
def patched (zs : List Int) (k : Nat) (ws : List Int) : List Int := zs.take k ++ (ws ++ zs.drop (k + ws.length))
theorem patched_len {zs : List Int} {k : Nat} {ws : List Int} (h : k + ws.length ≤ zs.length) : (patched zs k ws).length = zs.length := by
  simp [patched, List.length_take, List.length_drop]; omega
theorem patched_drop {zs : List Int} {k : Nat} {ws : List Int} (h : k ≤ zs.length) : (patched zs k ws).drop k = ws ++ zs.drop (k + ws.length) := by
  unfold patched
  rw [List.drop_append_of_le_length (by rw [List.length_take]; omega), List.drop_of_length_le (by rw [List.length_take]; omega)]
  rfl
theorem patched_low {zs : List Int} {k : Nat} {ws : List Int} (h : k ≤ zs.length) {j : Nat} (hj : j < k) : (patched zs k ws)[j]?.getD 0 = zs[j]?.getD 0 := by
  unfold patched
  rw [List.getElem?_append_left (by rw [List.length_take]; omega), List.getElem?_take_of_lt hj]
theorem patched_words {B : Int} {zs ws : List Int} {k : Nat} (hz : Words B zs) (hw : Words B ws) : Words B (patched zs k ws) := (hz.take k).append (hw.append (hz.drop _))
theorem Tryz.size3 : (Tryz.prog.info? 3).map (·.size) = some 1 := by kernel_rfl
/-- What less answers: whether f times v can be taken away, and what is then left. -/
def LessOut (w w' : World) (e : Ending) (gu gw k n N : Nat) (zs vs : List Int) (f : Int) : Prop :=
  ∃ (ok : Bool) (zs' ws' : List Int), e = .returned (.bool ok) ∧ Blk w' gu .i64 3 N zs' ∧ zs'.length = N ∧ Words 65536 zs' ∧ Blk w' gw .i64 3 (n + 1) ws' ∧ ws'.length = n + 1 ∧ Words 65536 ws' ∧
      (ok = true → f * val 65536 vs ≤ val 65536 ((zs.drop k).take (n + 1)) ∧ zs' = patched zs k ws' ∧ val 65536 ws' = val 65536 ((zs.drop k).take (n + 1)) - f * val 65536 vs) ∧ (ok = false → zs' = zs ∧ val 65536 ((zs.drop k).take (n + 1)) < f * val 65536 vs) ∧
      (∀ b, b < w.heap.size → b ≠ gu → b ≠ gw → w'.heap[b]? = w.heap[b]?) ∧ w.heap.size ≤ w'.heap.size ∧ w'.os = w.os ∧ w'.tape = w.tape ∧ w'.output = w.output
set_option maxHeartbeats 2000000 in
theorem less_any (gu gw k n N capV : Nat) (zs ws vs : List Int) (v : Option Addr) (f : Int) (w : World) (hv : Row w .i64 65536 v capV vs) (hvg : ∀ x, v = some x → x.block ≠ gw) (hne : gu ≠ gw)
    (hz : Blk w gu .i64 3 N zs) (hzl : zs.length = N) (hzw : Words 65536 zs) (hwb : Blk w gw .i64 3 (n + 1) ws) (hwl : ws.length = n + 1) (hww : Words 65536 ws) (hvn : vs.length = n) (hk : k + n + 1 ≤ N) (hN : N ≤ 1000000) (hf0 : 0 ≤ f) (hf1 : f < 65536) :
    Calls Tryz.prog 233 #[.slice (some ⟨gu, 0, none⟩) N N, .slice v n capV, .slice (some ⟨gw, 0, none⟩) (n + 1) (n + 1), .int .i64 k, .int .i64 f] w fun e w' => LessOut w w' e gu gw k n N zs vs f := by
  replace hzl : Hid _ := hzl
  replace hwl : Hid _ := hwl
  replace hvn : Hid _ := hvn
  go_enter Tryz.func233, Tryz.ntmps233
  go_wp2
  go_loopw [12, 13, 14] (fun cy i u14 wr => ∃ (t : Nat) (cc : Int) (ss : List Int), t ≤ n + 1 ∧ i = .int .i64 t ∧ cy = .int .i64 cc ∧ 0 ≤ cc ∧ cc ≤ 131072 ∧ Blk wr gw .i64 3 (n + 1) ss ∧ Hid (ss.length = n + 1) ∧ Words 65536 ss ∧ Hid (val 65536 (ss.take t) - (cc + 0) * 65536 ^ t = val 65536 ((zs.drop k).take t) - f * val 65536 (vs.take t)) ∧ w.grownBy wr (some gw)) (fun _ i _ _ => n + 1 - (intOf i).toNat)
  case atStart => exact ⟨0, 0, ws, Nat.zero_le _, rfl, rfl, by omega, by omega, hwb, hwl, hww, by simp [val, Hid], grown_refl _ _⟩
  case round =>
    obtain ⟨t, cc, ss, ht, rfl, rfl, hc0, hc1, hblk, hsl, hsw, HV, hgr⟩ := hrel
    have hvr := hv.grown hgr hvg
    have hzb := hz.grown hgr hne
    by_cases hlt : t ≤ n
    · obtain ⟨q, hq, hq0, hq1⟩ := hzw.get (by decide) (k + t)
      have hcu := hzb.cell (k + t) (by rw [hzl.out]; omega)
      rw [hq] at hcu
      have hst : t < ss.length := by rw [hsl.out]; omega
      have hcs := hblk.cell t hst
      have hfr := hblk.frozen t
      generalize ss[t]?.getD 0 = old at hcs
      have hzq : (zs.drop k)[t]?.getD 0 = q := by rw [drop_at]; exact hq
      obtain ⟨p, hp, hp0, hp1⟩ := hv.words.get (by decide) t
      have hm := mul_dig hp0 hp1 hf0 hf1
      have HS : ∀ d b', d = q - (p * f + cc) % 65536 - 0 + 65536 * b' → Hid (Hid (val 65536 ((ss.set t d).take (t + 1)) - ((p * f + cc) / 65536 + b' + 0) * 65536 ^ (t + 1) = val 65536 ((zs.drop k).take (t + 1)) - f * val 65536 (vs.take (t + 1)))) := by
        intro d b' hd
        show _ = _
        rw [Int.add_zero]
        exact subsc_step hst hp hzq hd rfl HV.out
      rw [show p * f + cc = cc + p * f from by omega] at HS
      have htn : (t : Int) ≤ (n : Int) := by omega
      have hpv : t < n ∨ (¬ t < n ∧ p = 0) := by
        by_cases h : t < n
        · exact .inl h
        · exact .inr ⟨h, by rw [← hp]; exact at_out (by rw [hvn.out]; exact h)⟩
      rcases hpv with hpv | ⟨hpv, rfl⟩
      · obtain ⟨v, rfl⟩ := hv.some_of (i := t) (by rw [hvn.out]; exact hpv)
        have hcv := hvr.cell v rfl t (by rw [hvn.out]; exact hpv)
        rw [hp] at hcv
        by_cases hneg : q - (cc + p * f) % 65536 < 0
        · replace HS := HS (q - (cc + p * f) % 65536 + 65536) 1 (by omega)
          clear hp hq HV hzq hst
          go_wp2
          go_roundw
          case rel => exact ⟨t + 1, _, _, by omega, by go_num, rfl, by omega, by omega, hblk.set t _, by show _ = _; rw [List.length_set]; exact hsl.out, hsw.set t (by omega), HS, grown_set hgr _ _⟩
          case measure => simp [intOf]; omega
        · replace HS := HS (q - (cc + p * f) % 65536) 0 (by omega)
          rw [Int.add_zero] at HS
          clear hp hq HV hzq hst
          go_wp2
          go_roundw
          case rel => exact ⟨t + 1, _, _, by omega, by go_num, rfl, by omega, by omega, hblk.set t _, by show _ = _; rw [List.length_set]; exact hsl.out, hsw.set t (by omega), HS, grown_set hgr _ _⟩
          case measure => simp [intOf]; omega
      · rw [show cc + 0 * f = cc from by omega] at HS
        by_cases hneg : q - cc % 65536 < 0
        · replace HS := HS (q - cc % 65536 + 65536) 1 (by omega)
          clear hp hq HV hzq hst hm
          go_wp2
          go_roundw
          case rel => exact ⟨t + 1, _, _, by omega, by go_num, rfl, by omega, by omega, hblk.set t _, by show _ = _; rw [List.length_set]; exact hsl.out, hsw.set t (by omega), HS, grown_set hgr _ _⟩
          case measure => simp [intOf]; omega
        · replace HS := HS (q - cc % 65536) 0 (by omega)
          rw [Int.add_zero] at HS
          clear hp hq HV hzq hst hm
          go_wp2
          go_roundw
          case rel => exact ⟨t + 1, _, _, by omega, by go_num, rfl, by omega, by omega, hblk.set t _, by show _ = _; rw [List.length_set]; exact hsl.out, hsw.set t (by omega), HS, grown_set hgr _ _⟩
          case measure => simp [intOf]; omega
    · obtain rfl : t = n + 1 := by omega
      have htn : ¬ (n : Int) + 1 ≤ (n : Int) := by omega
      have hvv := HV.out
      rw [take_all (zs := ss) (by rw [hsl.out]; omega), take_all (zs := vs) (by rw [hvn.out]; omega), Int.add_zero] at hvv
      have hs0 := val_nonneg (B := 65536) (by decide) hsw
      have hs1 := val_lt (B := 65536) (by decide) hsw
      rw [hsl.out] at hs1
      have hpp := pow_pos' (B := 65536) (by decide) (n + 1)
      by_cases hcz : cc = 0
      · subst hcz
        have hA : f * val 65536 vs ≤ val 65536 ((zs.drop k).take (n + 1)) := by omega
        have hB : val 65536 ss = val 65536 ((zs.drop k).take (n + 1)) - f * val 65536 vs := by omega
        replace hA : Hid _ := hA
        replace hB : Hid _ := hB
        clear hvv hs0 hs1 hpp HV
        have q1 := hzb.full hzl.out
        have q2 : (ss.map (Value.int .i64)).length = Nat.min (n + 1) (N - k) := by rw [List.length_map, hsl.out]; exact (Nat.min_eq_left (by omega)).symm
        have q3 := news_of_row (hblk.row hsw)
        have q4 : k + (ss.map (Value.int .i64)).length ≤ ((zs.map (Value.int .i64)).toArray).size := by rw [List.length_map, hsl.out, List.size_toArray, List.length_map, hzl.out]; omega
        have hpl : (patched zs k ss).length = N := by rw [patched_len (by rw [hsl.out, hzl.out]; omega)]; exact hzl.out
        have q5 : (zs.map (Value.int .i64)).toArray.toList.take k ++ (ss.map (Value.int .i64) ++ (zs.map (Value.int .i64)).toArray.toList.drop (k + (ss.map (Value.int .i64)).length)) = (patched zs k ss).map (Value.int .i64) := by
          simp [patched]
        have hblk2 := hblk.grown (grown_setRow wr gu ((patched zs k ss).map (Value.int .i64)).toArray) (Ne.symm hne)
        have hzb2 := hzb.setRow hzl.out (patched zs k ss) hpl
        replace q1 : Hid _ := q1
        replace q2 : Hid _ := q2
        replace q3 : Hid _ := q3
        replace q4 : Hid _ := q4
        replace q5 : Hid _ := q5
        replace hpl : Hid _ := hpl
        go_wp2_with (refine wpList_copy_own (by rfl) (.tmp 58) (.tmp 59) 36 36 (by rfl) 3 Tryz.underlying36 Tryz.size3 gu k (N - k) (N - k) ⟨gw, 0, none⟩ (n + 1) (n + 1) (by rfl) (by rfl) _ 3 q1.out _ q2.out q3.out q4.out (one_ints _ _) ?_; rw [q5.out])
        go_ret
        have hgr2 := grown_setRow wr gu ((patched zs k ss).map (Value.int .i64)).toArray
        exact ⟨true, patched zs k ss, ss, rfl, hzb2, hpl.out, patched_words hzw hsw, hblk2, hsl.out, hsw, fun _ => ⟨hA.out, rfl, hB.out⟩, (fun h => by cases h), fun b hb h1 h2 => (hgr2.block b (by have := hgr.size; omega) (by simpa using h1)).trans (hgr.block b hb (by simpa using h2)), Nat.le_trans hgr.size hgr2.size, hgr2.os.trans hgr.os, hgr2.tape.trans hgr.tape, hgr2.output.trans hgr.output⟩
      · have hB : val 65536 ((zs.drop k).take (n + 1)) < f * val 65536 vs := by
          have := Int.mul_le_mul_of_nonneg_right (show 1 ≤ cc by omega) (Int.le_of_lt hpp)
          omega
        have hcz' : (cc != 0) = true := by simp [hcz]
        replace hB : Hid _ := hB
        replace hcz : Hid _ := hcz
        clear hvv hs0 hs1 hpp HV
        go_wp2
        go_ret
        exact ⟨false, zs, ss, rfl, hzb, hzl.out, hzw, hblk, hsl.out, hsw, (fun h => by cases h), fun _ => ⟨rfl, hB.out⟩, fun b hb _ h2 => hgr.block b hb (by simpa using h2), hgr.size, hgr.os, hgr.tape, hgr.output⟩
end Go.Proofs.YtclokcoimdjaeaaGreatDoor
