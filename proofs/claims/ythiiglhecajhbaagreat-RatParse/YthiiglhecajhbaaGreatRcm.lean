/- The second road's digits: cmp, add, sub of magnitudes. -/
import Derived.Test.YthiiglhecajhbaaGreatRam
namespace Go.Proofs.YthiiglhecajhbaaGreat
open Go.RowKit
theorem Tryz.info3 : (Tryz.prog.info? 3).map (fun i => (i.zero, i.size, i.bytes)) = some (some (.int .i64 0), 1, 8) := by kernel_rfl
theorem mk28 (m : Int) (h0 : 0 ≤ m) (h1 : m ≤ 1000000000) (w : World) : (Instr.makeSlice 30 (.int .i64 m) (.int .i64 m)).run Tryz.prog w = .ok (.slice (some ⟨w.heap.size, 0, none⟩) m.toNat m.toNat) (w.alloc (.cells (cellsOf .i64 (zeros m.toNat)) 3)) :=
  run_zeros 30 3 .i64 8 Tryz.underlying30 Tryz.info3 m h0 (by omega) (by omega) w
/-- A row that is nought from n on. -/
theorem val_zero_tail (B : Int) (zs : List Int) (n : Nat) (h : ∀ i, n ≤ i → zs[i]?.getD 0 = 0) : val B (zs.take n) = val B zs := by
  have key : ∀ k, val B (zs.take (n + k)) = val B (zs.take n) := by
    intro k
    induction k with
    | zero => rfl
    | succ k ih => rw [← Nat.add_assoc, val_take_succ, h (n + k) (by omega), ih]; simp
  rw [← key zs.length, List.take_of_length_le (by omega)]
theorem Row.at_out {zs : List Int} {k : Nat} (h : ¬ k < zs.length) : zs[k]?.getD 0 = 0 := by rw [List.getElem?_eq_none (by omega)]; rfl
set_option maxHeartbeats 1000000 in
theorem rcmp_any (x y : Option Addr) (ca cb : Nat) (xs ys : List Int) (w : World) (ha : Row w .i64 65536 x ca xs) (hb : Row w .i64 65536 y cb ys) (_hl : xs.length ≤ 1000000) (hlb : ys.length ≤ 1000000) (nx : nrm xs) (ny : nrm ys) :
    Calls Tryz.prog 85 #[.slice x xs.length ca, .slice y ys.length cb] w fun e w' => e = .returned (.int .i64 (cmpI (val 65536 xs) (val 65536 ys))) ∧ Below w.heap.size w w' := by
  by_cases h : xs.length = ys.length
  case neg =>
    have h' : ((xs.length : Int) != (ys.length : Int)) = true := by rw [bne_iff_ne]; omega
    by_cases hh : xs.length < ys.length
    · rw [cmpI_lt (cmp_len (by decide) ha.words hb.words ny hh)]
      have h2 : (xs.length : Int) < (ys.length : Int) := by omega
      clear hh h
      go_enter Tryz.func85, Tryz.ntmps85
      go_wp2
      go_ret
      exact ⟨rfl, Below.refl _ _⟩
    · rw [cmpI_gt (cmp_len (by decide) hb.words ha.words nx (by omega))]
      have h2 : ¬ (xs.length : Int) < (ys.length : Int) := by omega
      clear hh h
      go_enter Tryz.func85, Tryz.ntmps85
      go_wp2
      go_ret
      exact ⟨rfl, Below.refl _ _⟩
  case pos =>
    rw [h]
    have H : Hid (xs.length = ys.length) := h
    have hbx := ha.words
    have hby := hb.words
    clear h _hl
    go_enter Tryz.func85, Tryz.ntmps85
    go_wp2
    go_loopw [5] (fun t wr => ∃ k : Nat, k ≤ ys.length ∧ t = .int .i64 (k - 1) ∧ Hid (val 65536 (xs.drop k) = val 65536 (ys.drop k)) ∧ Below w.heap.size w wr) (fun t _ => (intOf t + 1).toNat)
    case atStart => exact ⟨ys.length, Nat.le_refl _, rfl, by show val _ _ = val _ _; rw [List.drop_eq_nil_of_le (by have := H.out; omega), List.drop_eq_nil_of_le (by omega)], Below.refl _ _⟩
    case round =>
      obtain ⟨k, hk, rfl, HV, hbel⟩ := hrel
      cases k with
      | zero =>
        go_wp2
        go_ret
        refine ⟨ret_int ?_, hbel⟩
        have e := HV.out
        simp only [List.drop_zero] at e
        rw [cmpI_eq e]
      | succ k =>
        have hlx : k < xs.length := by have := H.out; omega
        obtain ⟨x, rfl⟩ := ha.some_of hlx
        obtain ⟨y, rfl⟩ := hb.some_of (i := k) (by omega)
        have hca := (ha.next hbel).cell x rfl k hlx
        have hcb := (hb.next hbel).cell y rfl k (by omega)
        obtain ⟨p, hp, hp0, hp1⟩ := ha.words.get (by decide) k
        obtain ⟨q, hq, hq0, hq1⟩ := hb.words.get (by decide) k
        rw [hp] at hca
        rw [hq] at hcb
        have HP : Hid (xs[k]?.getD 0 = p) := hp
        have HQ : Hid (ys[k]?.getD 0 = q) := hq
        clear hp hq
        have hk0 : (0 : Int) ≤ (k : Int) := by omega
        have hk1 : (k : Int) < (ys.length : Int) := by omega
        clear hlx
        by_cases hpq : p < q
        · have HC : Hid (cmpI (val 65536 xs) (val 65536 ys) = -1) := cmpI_lt (cmp_top (by decide) hbx hby H.out (i := k) (by have := H.out; omega) HV.out (by rw [HP.out, HQ.out]; exact hpq))
          go_wp2
          go_quiet (fail)
          go_wp2
          go_ret
          exact ⟨by rw [HC.out]; rfl, below_drewN hbel _⟩
        · by_cases hqp : q < p
          · have HC : Hid (cmpI (val 65536 xs) (val 65536 ys) = 1) := cmpI_gt (cmp_top (by decide) hby hbx H.out.symm (i := k) (by omega) HV.out.symm (by rw [HP.out, HQ.out]; exact hqp))
            have hqp' : p > q := hqp
            clear hqp
            go_wp2
            go_quiet (fail)
            have hbel2 : Below w.heap.size w (wr.drewN nq) := below_drewN hbel nq
            generalize wr.drewN nq = w2 at *
            have hca2 := (ha.next hbel2).cell x rfl k (by have := H.out; omega)
            have hcb2 := (hb.next hbel2).cell y rfl k (by omega)
            rw [HP.out] at hca2
            rw [HQ.out] at hcb2
            clear hca hcb
            go_wp2
            go_quiet (fail)
            go_wp2
            go_ret
            exact ⟨by rw [HC.out]; rfl, below_drewN hbel2 _⟩
          · have HPQ : Hid (p = q) := by show p = q; omega
            have hqp' : ¬ p > q := hqp
            clear hqp
            go_wp2
            go_quiet (fail)
            have hbel2 : Below w.heap.size w (wr.drewN nq) := below_drewN hbel nq
            generalize wr.drewN nq = w2 at *
            have hca2 := (ha.next hbel2).cell x rfl k (by have := H.out; omega)
            have hcb2 := (hb.next hbel2).cell y rfl k (by omega)
            rw [HP.out] at hca2
            rw [HQ.out] at hcb2
            clear hca hcb
            go_wp2
            go_quiet (fail)
            go_wp2
            go_roundw
            case rel => exact ⟨k, by omega, rfl, by show val _ _ = val _ _; rw [val_drop _ xs, val_drop _ ys, HV.out, HP.out, HQ.out, HPQ.out], below_drewN hbel2 _⟩
            case measure => simp [intOf]
set_option maxHeartbeats 1000000 in
theorem radd_any (x y : Option Addr) (ca cb : Nat) (xs ys : List Int) (w : World) (ha : Row w .i64 65536 x ca xs) (hb : Row w .i64 65536 y cb ys) (hl : xs.length ≤ 1000000) (hlb : ys.length ≤ 1000000) :
    Calls Tryz.prog 84 #[.slice x xs.length ca, .slice y ys.length cb] w fun e w' => ∃ a' cap' ds, e = .returned (.slice a' ds.length cap') ∧ Rown w' w.heap.size a' cap' ds ∧ nrm ds ∧ val 65536 ds = val 65536 xs + val 65536 ys ∧ ds.length ≤ max xs.length ys.length + 1 ∧ Below w.heap.size w w' := by
  by_cases hc : ys.length ≤ xs.length
  · have hc' : ¬ (ys.length : Int) > (xs.length : Int) := by omega
    have hmk := mk28 ((xs.length : Int) + 1) (by omega) (by omega) w
    rw [show ((xs.length : Int) + 1).toNat = xs.length + 1 from by omega] at hmk
    rw [Nat.max_eq_left hc]
    go_enter Tryz.func84, Tryz.ntmps84
    go_wp2
    go_loopw [7, 8] (fun c i wr => ∃ (k : Nat) (cc : Int) (ss : List Int), k ≤ xs.length + 1 ∧ i = .int .i64 k ∧ c = .int .i64 cc ∧ 0 ≤ cc ∧ cc ≤ 1 ∧ Blk wr w.heap.size .i64 3 (xs.length + 1) ss ∧ ss.length = xs.length + 1 ∧ Words 65536 ss ∧ Hid (val 65536 (ss.take k) + cc * 65536 ^ k = val 65536 (xs.take k) + val 65536 (ys.take k)) ∧ Below w.heap.size w wr) (fun _ i _ => xs.length + 1 - (intOf i).toNat)
    case atStart => exact ⟨0, 0, zeros (xs.length + 1), Nat.zero_le _, rfl, rfl, by omega, by omega, by have := Blk.new w .i64 3 (zeros (xs.length + 1)) (by rw [zeros_len]; unfold maxLen; omega); rwa [zeros_len] at this, zeros_len _, zeros_words (by decide) _, by simp [val, Hid], (Below.refl _ _).alloc (Nat.le_refl _) _⟩
    case round =>
      obtain ⟨k, cc, ss, hk, rfl, rfl, hc0, hc1, hblk, hsl, hsw, HV, hbel⟩ := hrel
      obtain ⟨p, hp, hp0, hp1⟩ := ha.words.get (by decide) k
      obtain ⟨q, hq, hq0, hq1⟩ := hb.words.get (by decide) k
      by_cases hlt : k ≤ xs.length
      · have hcs := hblk.cell k (by omega)
        have hfr := hblk.frozen k
        have HS : Hid (Hid (val 65536 ((ss.set k ((p + q + cc) % 65536)).take (k + 1)) + ((p + q + cc) / 65536) * 65536 ^ (k + 1) = val 65536 (xs.take (k + 1)) + val 65536 (ys.take (k + 1)))) := add_step (by decide) (by omega) hp hq HV.out
        rw [show p + q + cc = cc + p + q from by omega] at HS
        generalize ss[k]?.getD 0 = old at hcs
        have hrow := ha.next hbel
        have hrow' := hb.next hbel
        have hla : k < xs.length ∨ (¬ k < xs.length ∧ p = 0) := by
          by_cases h : k < xs.length
          · exact .inl h
          · exact .inr ⟨h, by rw [← hp]; exact Row.at_out h⟩
        have hlb' : k < ys.length ∨ (¬ k < ys.length ∧ q = 0) := by
          by_cases h : k < ys.length
          · exact .inl h
          · exact .inr ⟨h, by rw [← hq]; exact Row.at_out h⟩
        have hk2 : (k : Int) ≤ (xs.length : Int) := by omega
        rcases hla with hla | ⟨hla, rfl⟩ <;> rcases hlb' with hlb' | ⟨hlb', rfl⟩
        · obtain ⟨x, rfl⟩ := ha.some_of hla
          obtain ⟨y, rfl⟩ := hb.some_of hlb'
          have hca := hrow.cell x rfl k hla
          have hcb := hrow'.cell y rfl k hlb'
          rw [hp] at hca
          rw [hq] at hcb
          clear hp hq HV
          go_wp2
          go_roundw
          case rel => exact ⟨k + 1, _, _, by omega, by go_num, rfl, by omega, by omega, hblk.set k _, by simpa using hsl, hsw.set k (by omega), HS, hbel.setCell (Nat.le_refl _) _⟩
          case measure => simp [intOf]; omega
        · obtain ⟨x, rfl⟩ := ha.some_of hla
          have hca := hrow.cell x rfl k hla
          rw [hp] at hca
          rw [Int.add_zero] at HS
          clear hp hq HV
          go_wp2
          go_roundw
          case rel => exact ⟨k + 1, _, _, by omega, by go_num, rfl, by omega, by omega, hblk.set k _, by simpa using hsl, hsw.set k (by omega), HS, hbel.setCell (Nat.le_refl _) _⟩
          case measure => simp [intOf]; omega
        · exfalso; omega
        · rw [Int.add_zero, Int.add_zero] at HS
          clear hp hq HV
          go_wp2
          go_roundw
          case rel => exact ⟨k + 1, _, _, by omega, by go_num, rfl, by omega, by omega, hblk.set k _, by simpa using hsl, hsw.set k (by omega), HS, hbel.setCell (Nat.le_refl _) _⟩
          case measure => simp [intOf]; omega
      · obtain rfl : k = xs.length + 1 := by omega
        clear hp hq
        have hk2 : ¬ (xs.length : Int) + 1 ≤ (xs.length : Int) := by omega
        have HV' := HV.out
        rw [take_all (by omega), take_all (by omega), take_all (by omega)] at HV'
        have hcc : cc = 0 := by
          have e1 := val_nonneg (by decide) hsw
          have e2 := val_lt (by decide) ha.words
          have e3 := val_lt (by decide) hb.words
          have e4 := pow_mono (B := 65536) (by decide) (m := xs.length) (n := xs.length) (by omega)
          have e5 := pow_mono (B := 65536) (by decide) (m := ys.length) (n := xs.length) (by omega)
          have e6 : (65536 : Int) ^ (xs.length + 1) = 65536 * 65536 ^ xs.length := by rw [Int.pow_succ, Int.mul_comm]
          have e7 := pow_pos' (B := 65536) (by decide) xs.length
          rcases (by omega : cc = 0 ∨ cc = 1) with h | h
          · exact h
          · subst h; omega
        subst hcc
        replace HV' : Hid _ := HV'
        have hrw := hblk.row hsw
        have htr := rtrim_any _ _ ss wr hrw
        rw [hsl] at htr
        go_wp2_with fail
        refine Calls.mono htr ?_
        rintro e w' ⟨rfl, rfl⟩
        go_wp2
        go_ret
        exact ⟨_, _, trimmed ss, rfl, ⟨hrw.cutTrim, fun x hx => by cases hx; exact Nat.le_refl _⟩, trimmed_nrm ss, by rw [trimmed_val]; have := HV'.out; omega, by have := trimmed_le ss; omega, hbel⟩
  · have hc' : (ys.length : Int) > (xs.length : Int) := by omega
    have hmk := mk28 ((ys.length : Int) + 1) (by omega) (by omega) w
    rw [show ((ys.length : Int) + 1).toNat = ys.length + 1 from by omega] at hmk
    rw [Nat.max_eq_right (by omega)]
    go_enter Tryz.func84, Tryz.ntmps84
    go_wp2
    go_loopw [7, 8] (fun c i wr => ∃ (k : Nat) (cc : Int) (ss : List Int), k ≤ ys.length + 1 ∧ i = .int .i64 k ∧ c = .int .i64 cc ∧ 0 ≤ cc ∧ cc ≤ 1 ∧ Blk wr w.heap.size .i64 3 (ys.length + 1) ss ∧ ss.length = ys.length + 1 ∧ Words 65536 ss ∧ Hid (val 65536 (ss.take k) + cc * 65536 ^ k = val 65536 (xs.take k) + val 65536 (ys.take k)) ∧ Below w.heap.size w wr) (fun _ i _ => ys.length + 1 - (intOf i).toNat)
    case atStart => exact ⟨0, 0, zeros (ys.length + 1), Nat.zero_le _, rfl, rfl, by omega, by omega, by have := Blk.new w .i64 3 (zeros (ys.length + 1)) (by rw [zeros_len]; unfold maxLen; omega); rwa [zeros_len] at this, zeros_len _, zeros_words (by decide) _, by simp [val, Hid], (Below.refl _ _).alloc (Nat.le_refl _) _⟩
    case round =>
      obtain ⟨k, cc, ss, hk, rfl, rfl, hc0, hc1, hblk, hsl, hsw, HV, hbel⟩ := hrel
      obtain ⟨p, hp, hp0, hp1⟩ := ha.words.get (by decide) k
      obtain ⟨q, hq, hq0, hq1⟩ := hb.words.get (by decide) k
      by_cases hlt : k ≤ ys.length
      · have hcs := hblk.cell k (by omega)
        have hfr := hblk.frozen k
        have HS : Hid (Hid (val 65536 ((ss.set k ((p + q + cc) % 65536)).take (k + 1)) + ((p + q + cc) / 65536) * 65536 ^ (k + 1) = val 65536 (xs.take (k + 1)) + val 65536 (ys.take (k + 1)))) := add_step (by decide) (by omega) hp hq HV.out
        rw [show p + q + cc = cc + p + q from by omega] at HS
        generalize ss[k]?.getD 0 = old at hcs
        have hrow := ha.next hbel
        have hrow' := hb.next hbel
        have hla : k < xs.length ∨ (¬ k < xs.length ∧ p = 0) := by
          by_cases h : k < xs.length
          · exact .inl h
          · exact .inr ⟨h, by rw [← hp]; exact Row.at_out h⟩
        have hlb' : k < ys.length ∨ (¬ k < ys.length ∧ q = 0) := by
          by_cases h : k < ys.length
          · exact .inl h
          · exact .inr ⟨h, by rw [← hq]; exact Row.at_out h⟩
        have hk2 : (k : Int) ≤ (ys.length : Int) := by omega
        rcases hla with hla | ⟨hla, rfl⟩ <;> rcases hlb' with hlb' | ⟨hlb', rfl⟩
        · obtain ⟨x, rfl⟩ := ha.some_of hla
          obtain ⟨y, rfl⟩ := hb.some_of hlb'
          have hca := hrow.cell x rfl k hla
          have hcb := hrow'.cell y rfl k hlb'
          rw [hp] at hca
          rw [hq] at hcb
          clear hp hq HV
          go_wp2
          go_roundw
          case rel => exact ⟨k + 1, _, _, by omega, by go_num, rfl, by omega, by omega, hblk.set k _, by simpa using hsl, hsw.set k (by omega), HS, hbel.setCell (Nat.le_refl _) _⟩
          case measure => simp [intOf]; omega
        · exfalso; omega
        · obtain ⟨y, rfl⟩ := hb.some_of hlb'
          have hcb := hrow'.cell y rfl k hlb'
          rw [hq] at hcb
          rw [Int.add_zero] at HS
          clear hp hq HV
          go_wp2
          go_roundw
          case rel => exact ⟨k + 1, _, _, by omega, by go_num, rfl, by omega, by omega, hblk.set k _, by simpa using hsl, hsw.set k (by omega), HS, hbel.setCell (Nat.le_refl _) _⟩
          case measure => simp [intOf]; omega
        · rw [Int.add_zero, Int.add_zero] at HS
          clear hp hq HV
          go_wp2
          go_roundw
          case rel => exact ⟨k + 1, _, _, by omega, by go_num, rfl, by omega, by omega, hblk.set k _, by simpa using hsl, hsw.set k (by omega), HS, hbel.setCell (Nat.le_refl _) _⟩
          case measure => simp [intOf]; omega
      · obtain rfl : k = ys.length + 1 := by omega
        clear hp hq
        have hk2 : ¬ (ys.length : Int) + 1 ≤ (ys.length : Int) := by omega
        have HV' := HV.out
        rw [take_all (by omega), take_all (by omega), take_all (by omega)] at HV'
        have hcc : cc = 0 := by
          have e1 := val_nonneg (by decide) hsw
          have e2 := val_lt (by decide) ha.words
          have e3 := val_lt (by decide) hb.words
          have e4 := pow_mono (B := 65536) (by decide) (m := xs.length) (n := ys.length) (by omega)
          have e5 := pow_mono (B := 65536) (by decide) (m := ys.length) (n := ys.length) (by omega)
          have e6 : (65536 : Int) ^ (ys.length + 1) = 65536 * 65536 ^ ys.length := by rw [Int.pow_succ, Int.mul_comm]
          have e7 := pow_pos' (B := 65536) (by decide) ys.length
          rcases (by omega : cc = 0 ∨ cc = 1) with h | h
          · exact h
          · subst h; omega
        subst hcc
        replace HV' : Hid _ := HV'
        have hrw := hblk.row hsw
        have htr := rtrim_any _ _ ss wr hrw
        rw [hsl] at htr
        go_wp2_with fail
        refine Calls.mono htr ?_
        rintro e w' ⟨rfl, rfl⟩
        go_wp2
        go_ret
        exact ⟨_, _, trimmed ss, rfl, ⟨hrw.cutTrim, fun x hx => by cases hx; exact Nat.le_refl _⟩, trimmed_nrm ss, by rw [trimmed_val]; have := HV'.out; omega, by have := trimmed_le ss; omega, hbel⟩
set_option maxHeartbeats 1000000 in
theorem rsub_any (x y : Option Addr) (ca cb : Nat) (xs ys : List Int) (w : World) (ha : Row w .i64 65536 x ca xs) (hb : Row w .i64 65536 y cb ys) (hl : xs.length ≤ 1000000) (hlb : ys.length ≤ xs.length) (hv : val 65536 ys ≤ val 65536 xs) :
    Calls Tryz.prog 86 #[.slice x xs.length ca, .slice y ys.length cb] w fun e w' => ∃ a' cap' ds, e = .returned (.slice a' ds.length cap') ∧ Rown w' w.heap.size a' cap' ds ∧ nrm ds ∧ val 65536 ds = val 65536 xs - val 65536 ys ∧ ds.length ≤ xs.length ∧ Below w.heap.size w w' := by
  have hmk := mk28 (xs.length : Int) (by omega) (by omega) w
  rw [show (xs.length : Int).toNat = xs.length from by omega] at hmk
  replace hv : Hid _ := hv
  go_enter Tryz.func86, Tryz.ntmps86
  go_wp2
  go_loopw [6, 7, 8] (fun c i u wr => ∃ (k : Nat) (cc : Int) (ss : List Int), k ≤ xs.length ∧ i = .int .i64 k ∧ c = .int .i64 cc ∧ 0 ≤ cc ∧ cc ≤ 1 ∧ Blk wr w.heap.size .i64 3 xs.length ss ∧ ss.length = xs.length ∧ Words 65536 ss ∧ Hid (val 65536 (ss.take k) - cc * 65536 ^ k = val 65536 (xs.take k) - val 65536 (ys.take k)) ∧ Below w.heap.size w wr) (fun _ i _ _ => xs.length - (intOf i).toNat)
  case atStart => exact ⟨0, 0, zeros xs.length, Nat.zero_le _, rfl, rfl, by omega, by omega, by have := Blk.new w .i64 3 (zeros xs.length) (by rw [zeros_len]; unfold maxLen; omega); rwa [zeros_len] at this, zeros_len _, zeros_words (by decide) _, by simp [val, Hid], (Below.refl _ _).alloc (Nat.le_refl _) _⟩
  case round =>
    obtain ⟨k, cc, ss, hk, rfl, rfl, hc0, hc1, hblk, hsl, hsw, HV, hbel⟩ := hrel
    obtain ⟨p, hp, hp0, hp1⟩ := ha.words.get (by decide) k
    obtain ⟨q, hq, hq0, hq1⟩ := hb.words.get (by decide) k
    by_cases hlt : k < xs.length
    · obtain ⟨x, rfl⟩ := ha.some_of hlt
      have hca := (ha.next hbel).cell x rfl k hlt
      have hrow' := hb.next hbel
      have hcs := hblk.cell k (by omega)
      have hfr := hblk.frozen k
      have HS : ∀ d c', d = p - q - cc + 65536 * c' → Hid (Hid (val 65536 ((ss.set k d).take (k + 1)) - c' * 65536 ^ (k + 1) = val 65536 (xs.take (k + 1)) - val 65536 (ys.take (k + 1)))) := fun d c' e => sub_step (by omega) hp hq e HV.out
      generalize ss[k]?.getD 0 = old at hcs
      rw [hp] at hca
      have hlb' : k < ys.length ∨ (¬ k < ys.length ∧ q = 0) := by
        by_cases h : k < ys.length
        · exact .inl h
        · exact .inr ⟨h, by rw [← hq]; exact Row.at_out h⟩
      rcases hlb' with hlb' | ⟨hlb', rfl⟩
      · obtain ⟨y, rfl⟩ := hb.some_of hlb'
        have hcb := hrow'.cell y rfl k hlb'
        rw [hq] at hcb
        by_cases hneg : p - cc - q < 0
        · replace HS := HS (p - cc - q + 65536) 1 (by omega)
          clear hp hq HV
          go_wp2
          go_roundw
          case rel => exact ⟨k + 1, _, _, by omega, by go_num, rfl, by omega, by omega, hblk.set k _, by simpa using hsl, hsw.set k (by omega), HS, hbel.setCell (Nat.le_refl _) _⟩
          case measure => simp [intOf]; omega
        · replace HS := HS (p - cc - q) 0 (by omega)
          clear hp hq HV
          go_wp2
          go_roundw
          case rel => exact ⟨k + 1, _, _, by omega, by go_num, rfl, by omega, by omega, hblk.set k _, by simpa using hsl, hsw.set k (by omega), HS, hbel.setCell (Nat.le_refl _) _⟩
          case measure => simp [intOf]; omega
      · by_cases hneg : p - cc < 0
        · replace HS := HS (p - cc + 65536) 1 (by omega)
          clear hp hq HV
          go_wp2
          go_roundw
          case rel => exact ⟨k + 1, _, _, by omega, by go_num, rfl, by omega, by omega, hblk.set k _, by simpa using hsl, hsw.set k (by omega), HS, hbel.setCell (Nat.le_refl _) _⟩
          case measure => simp [intOf]; omega
        · replace HS := HS (p - cc) 0 (by omega)
          clear hp hq HV
          go_wp2
          go_roundw
          case rel => exact ⟨k + 1, _, _, by omega, by go_num, rfl, by omega, by omega, hblk.set k _, by simpa using hsl, hsw.set k (by omega), HS, hbel.setCell (Nat.le_refl _) _⟩
          case measure => simp [intOf]; omega
    · obtain rfl : k = xs.length := by omega
      clear hp hq
      have HV' := HV.out
      rw [take_all (by omega), take_all (by omega), take_all (by omega)] at HV'
      have hcc : cc = 0 := by
        have e2 := val_lt (by decide) hsw
        rw [hsl] at e2
        have e3 := hv.out
        rcases (by omega : cc = 0 ∨ cc = 1) with h | h
        · exact h
        · subst h; omega
      subst hcc
      replace HV' : Hid _ := HV'
      have hrw := hblk.row hsw
      have htr := rtrim_any _ _ ss wr hrw
      rw [hsl] at htr
      go_wp2_with fail
      refine Calls.mono htr ?_
      rintro e w' ⟨rfl, rfl⟩
      go_wp2
      go_ret
      exact ⟨_, _, trimmed ss, rfl, ⟨hrw.cutTrim, fun x hx => by cases hx; exact Nat.le_refl _⟩, trimmed_nrm ss, by rw [trimmed_val]; have := HV'.out; omega, by have := trimmed_le ss; omega, hbel⟩
end Go.Proofs.YthiiglhecajhbaaGreat
namespace Go.Proofs.YthiiglhecajhbaaGreat
open Go.RowKit
theorem mul_dig {p s : Int} (hp0 : 0 ≤ p) (hp1 : p < 65536) (hs0 : 0 ≤ s) (hs1 : s < 65536) : 0 ≤ p * s ∧ p * s ≤ 4294836225 := by
  refine ⟨Int.mul_nonneg hp0 hs0, ?_⟩
  have h1 : p * s ≤ 65535 * s := Int.mul_le_mul_of_nonneg_right (by omega) hs0
  omega
theorem rmul_end {xs ys zs ss : List Int} {i j : Nat} {s : Int} (hx : xs[i]?.getD 0 = s) (hz : val 65536 zs = val 65536 (xs.take i) * val 65536 ys) (hj : ys.length ≤ j)
    (hzz : ∀ t, i + ys.length ≤ t → zs[t]?.getD 0 = 0) (hss : ∀ t, i + j ≤ t → ss[t]?.getD 0 = zs[t]?.getD 0)
    (h : val 65536 (ss.take (i + j)) + 0 * 65536 ^ (i + j) = val 65536 (zs.take (i + j)) + s * val 65536 (ys.take j) * 65536 ^ i) : val 65536 ss = val 65536 (xs.take (i + 1)) * val 65536 ys := by
  rw [val_zero_tail _ ss (i + j) (fun t ht => by rw [hss t ht, hzz t (by omega)]), val_zero_tail _ zs (i + j) (fun t ht => hzz t (by omega)), take_all (by omega : ys.length ≤ j), hz] at h
  rw [val_take_succ, hx, Int.add_mul]
  have e : s * 65536 ^ i * val 65536 ys = s * val 65536 ys * 65536 ^ i := by rw [Int.mul_assoc, Int.mul_comm (65536 ^ i), ← Int.mul_assoc]
  rw [e]; omega
set_option maxHeartbeats 2000000 in
theorem rmul_any (x y : Option Addr) (ca cb : Nat) (xs ys : List Int) (w : World) (ha : Row w .i64 65536 x ca xs) (hb : Row w .i64 65536 y cb ys) (hl : xs.length ≤ 1000000) (hlb : ys.length ≤ 1000000) :
    Calls Tryz.prog 79 #[.slice x xs.length ca, .slice y ys.length cb] w fun e w' => ∃ a' cap' ds, e = .returned (.slice a' ds.length cap') ∧ Rown w' w.heap.size a' cap' ds ∧ nrm ds ∧ val 65536 ds = val 65536 xs * val 65536 ys ∧ ds.length ≤ xs.length + ys.length + 1 ∧ Below w.heap.size w w' := by
  have hmk := mk28 ((xs.length : Int) + (ys.length : Int) + 1) (by omega) (by omega) w
  rw [show ((xs.length : Int) + (ys.length : Int) + 1).toNat = xs.length + ys.length + 1 from by omega] at hmk
  go_enter Tryz.func79, Tryz.ntmps79
  go_wp2
  go_loopw [6, 7, 8] (fun i u7 u8 wr => ∃ (k : Nat) (zs : List Int), k ≤ xs.length ∧ i = .int .i64 k ∧ Blk wr w.heap.size .i64 3 (xs.length + ys.length + 1) zs ∧ zs.length = xs.length + ys.length + 1 ∧ Words 65536 zs ∧ Hid (val 65536 zs = val 65536 (xs.take k) * val 65536 ys) ∧ Hid (∀ t, k + ys.length ≤ t → zs[t]?.getD 0 = 0) ∧ Below w.heap.size w wr) (fun i _ _ _ => xs.length - (intOf i).toNat)
  case atStart => exact ⟨0, zeros (xs.length + ys.length + 1), Nat.zero_le _, rfl, by have := Blk.new w .i64 3 (zeros (xs.length + ys.length + 1)) (by rw [zeros_len]; unfold maxLen; omega); rwa [zeros_len] at this, zeros_len _, zeros_words (by decide) _, by show val _ _ = _; rw [zeros_val]; simp [val], fun t _ => zeros_at _ t, (Below.refl _ _).alloc (Nat.le_refl _) _⟩
  case round =>
    obtain ⟨k, zs, hk, rfl, hblk0, hzl, hzw, HZ, HZZ, hbel0⟩ := hrel
    by_cases hlt : k < xs.length
    · obtain ⟨x, rfl⟩ := ha.some_of hlt
      obtain ⟨s, hs, hs0, hs1⟩ := ha.words.get (by decide) k
      have HSX : Hid (xs[k]?.getD 0 = s) := hs
      clear hs
      go_wp2
      go_loopw [7, 8] (fun c j wr' => ∃ (t : Nat) (cc : Int) (ss : List Int), t ≤ ys.length + 1 ∧ j = .int .i64 t ∧ c = .int .i64 cc ∧ 0 ≤ cc ∧ cc < 65536 ∧ (t = ys.length + 1 → cc = 0) ∧ Blk wr' w.heap.size .i64 3 (xs.length + ys.length + 1) ss ∧ ss.length = xs.length + ys.length + 1 ∧ Words 65536 ss ∧ Hid (∀ i, k + t ≤ i → ss[i]?.getD 0 = zs[i]?.getD 0) ∧ Hid (val 65536 (ss.take (k + t)) + cc * 65536 ^ (k + t) = val 65536 (zs.take (k + t)) + s * val 65536 (ys.take t) * 65536 ^ k) ∧ Below w.heap.size w wr') (fun _ j _ => ys.length + 1 - (intOf j).toNat)
      case atStart => exact ⟨0, 0, zs, Nat.zero_le _, rfl, rfl, by omega, by omega, fun _ => rfl, hblk0, hzl, hzw, fun _ _ => rfl, by simp [val, Hid], hbel0⟩
      case round =>
        obtain ⟨t, cc, ss, ht, rfl, rfl, hc0, hc1, hcz, hblk, hsl, hsw, HE, HV, hbel⟩ := hrel
        by_cases htl : t < ys.length
        · obtain ⟨y, rfl⟩ := hb.some_of htl
          obtain ⟨p, hp, hp0, hp1⟩ := hb.words.get (by decide) t
          obtain ⟨q, hq, hq0, hq1⟩ := hsw.get (by decide) (k + t)
          have hca := (ha.next hbel).cell x rfl k hlt
          have hcb := (hb.next hbel).cell y rfl t htl
          have hcs := hblk.cell (k + t) (by omega)
          have hfr := hblk.frozen (k + t)
          have hzq : zs[k + t]?.getD 0 = q := by rw [← HE.out (k + t) (Nat.le_refl _)]; exact hq
          have HS : Hid (Hid (val 65536 ((ss.set (k + t) ((p * s + q + cc) % 65536)).take (k + (t + 1))) + ((p * s + q + cc) / 65536) * 65536 ^ (k + (t + 1)) = val 65536 (zs.take (k + (t + 1))) + s * val 65536 (ys.take (t + 1)) * 65536 ^ k)) := scale_step (by omega) hp hzq HV.out
          rw [show p * s + q + cc = cc + q + s * p from by rw [Int.mul_comm p s]; omega] at HS
          have hm := mul_dig hs0 hs1 hp0 hp1
          rw [HSX.out] at hca
          rw [hp] at hcb
          rw [hq] at hcs
          clear hp hq HV hzq hcz
          go_wp2
          go_quiet (fail)
          have hblk' : Blk (wr.drewN nq) w.heap.size .i64 3 (xs.length + ys.length + 1) ss := hblk.below (below_drewN (Below.refl (wr.heap.size) _) nq) hblk.lt
          have hbel' : Below w.heap.size w (wr.drewN nq) := below_drewN hbel nq
          generalize wr.drewN nq = w2 at *
          have hcs' := hblk'.cell (k + t) (by omega)
          have hfr' := hblk'.frozen (k + t)
          generalize ss[k + t]?.getD 0 = old at hcs'
          clear hcs hfr hca hcb hblk hbel
          go_wp2
          go_roundw
          case rel => exact ⟨t + 1, _, _, by omega, by go_num, rfl, by omega, by omega, by omega, hblk'.set (k + t) _, by simpa using hsl, hsw.set (k + t) (by omega), fun i hi => by rw [List.getElem?_set_ne (by omega)]; exact HE.out i (by omega), HS, hbel'.setCell (Nat.le_refl _) _⟩
          case measure => simp [intOf]; omega
        · by_cases hcp : 0 < cc
          · have hte : t = ys.length := by
              by_cases h : t = ys.length + 1
              · have := hcz h; omega
              · omega
            have hcs := hblk.cell (k + t) (by omega)
            have hfr := hblk.frozen (k + t)
            have hzq : zs[k + t]?.getD 0 = 0 := HZZ.out (k + t) (by omega)
            have hq : ss[k + t]?.getD 0 = 0 := by rw [HE.out (k + t) (Nat.le_refl _)]; exact hzq
            have HS : Hid (Hid (val 65536 ((ss.set (k + t) ((0 * s + 0 + cc) % 65536)).take (k + (t + 1))) + ((0 * s + 0 + cc) / 65536) * 65536 ^ (k + (t + 1)) = val 65536 (zs.take (k + (t + 1))) + s * val 65536 (ys.take (t + 1)) * 65536 ^ k)) := scale_step (by omega) (Row.at_out htl) hzq HV.out
            rw [show (0 : Int) * s + 0 + cc = cc + 0 from by omega, Int.add_zero] at HS
            rw [hq] at hcs
            have hcp' : cc > 0 := hcp
            clear hq HV hzq hcz
            have ht2 : t ≤ ys.length := by omega
            replace hte : Hid _ := hte
            go_wp2
            go_roundw
            case rel => exact ⟨t + 1, _, _, by omega, by go_num, rfl, by omega, by omega, by omega, hblk.set (k + t) _, by simpa using hsl, hsw.set (k + t) (by omega), fun i hi => by rw [List.getElem?_set_ne (by omega)]; exact HE.out i (by omega), HS, hbel.setCell (Nat.le_refl _) _⟩
            case measure => simp [intOf]; omega
          · obtain rfl : cc = 0 := by omega
            have HS := rmul_end HSX.out HZ.out (by omega) HZZ.out HE.out HV.out
            replace HS : Hid _ := HS
            clear HV hcz
            go_wp2
            go_roundw
            case rel => exact ⟨k + 1, ss, by omega, by go_num, hblk, hsl, hsw, HS, fun i hi => by rw [HE.out i (by omega)]; exact HZZ.out i (by omega), hbel⟩
            case measure => simp [intOf]; omega
    · obtain rfl : k = xs.length := by omega
      have HV' := HZ.out
      rw [take_all (Nat.le_refl _)] at HV'
      replace HV' : Hid _ := HV'
      have hrw := hblk0.row hzw
      have htr := rtrim_any _ _ zs wr hrw
      rw [hzl] at htr
      go_wp2_with fail
      refine Calls.mono htr ?_
      rintro e w' ⟨rfl, rfl⟩
      go_wp2
      go_ret
      exact ⟨_, _, trimmed zs, rfl, ⟨hrw.cutTrim, fun x hx => by cases hx; exact Nat.le_refl _⟩, trimmed_nrm zs, by rw [trimmed_val]; exact HV'.out, by have := trimmed_le zs; omega, hbel0⟩
end Go.Proofs.YthiiglhecajhbaaGreat
