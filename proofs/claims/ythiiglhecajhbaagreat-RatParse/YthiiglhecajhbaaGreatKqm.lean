/- Contracts of subtractScaled and addBack. -/
import Derived.Test.YthiiglhecajhbaaGreatKo
namespace Go.Proofs.YthiiglhecajhbaaGreat
open Go.RowKit
attribute [local go_sem ↓] Go.wp_at_zero Go.wp_at_succ
theorem grown_below' {w0 w w' : World} {g : Nat} (hw : Below w0.heap.size w0 w) (h : w.grownBy w' (some g)) (hg : w0.heap.size ≤ g) : Below w0.heap.size w0 w' := hw.trans (grown_below h hg hw.size)
theorem bor_fact (z t b : Int) (hz0 : 0 ≤ z) (hz1 : z < 4294967296) (ht0 : 0 ≤ t) (ht1 : t < 4294967296) (hb0 : 0 ≤ b) (hb1 : b ≤ 1) : (z - t - b) % 4294967296 = z - t - b + 4294967296 * bor z t b ∧ 0 ≤ bor z t b ∧ bor z t b ≤ 1 := by
  unfold bor
  split <;> omega
set_option maxHeartbeats 2000000 in
theorem subtractScaled_any (w0 : World) (g o n capT capB cap : Nat) (zs ys : List Int) (y : Option Addr) (s : Int) (w : World) (hb : Row w0 .u32 4294967296 y capB ys) (hw : Below w0.heap.size w0 w) (hg : w0.heap.size ≤ g)
    (hz : Blk w g .u32 74 cap zs) (hzw : Words 4294967296 zs) (hn : ys.length = n) (ho : o + n + 1 ≤ zs.length) (hl : zs.length ≤ 4000000) (hs0 : 0 ≤ s) (hs1 : s < 4294967296) :
    Calls Tryz.prog 136 #[.slice (some ⟨g, o, none⟩) (n + 1) capT, .slice y n capB, .int .u32 s] w fun e w' => ∃ (b : Int) (zs' : List Int), e = .returned (.bool (b != 0)) ∧ 0 ≤ b ∧ b ≤ 1 ∧ Blk w' g .u32 74 cap zs' ∧ zs'.length = zs.length ∧ Words 4294967296 zs' ∧ (∀ j, j < o ∨ o + n < j → zs'[j]?.getD 0 = zs[j]?.getD 0) ∧ val 4294967296 ((zs'.drop o).take (n + 1)) - b * 4294967296 ^ (n + 1) = val 4294967296 ((zs.drop o).take (n + 1)) - s * val 4294967296 ys ∧ w.grownBy w' (some g) := by
  go_enter Tryz.func136, Tryz.ntmps136
  go_wp2
  go_loopw [7, 8, 9, 10, 11, 15] (fun cy bo u9 u10 u11 i wr => ∃ (k : Nat) (cc b : Int) (ss : List Int), k ≤ n ∧ i = .int .i64 k ∧ cy = .int .u64 cc ∧ bo = .int .u32 b ∧ 0 ≤ cc ∧ cc < 4294967296 ∧ 0 ≤ b ∧ b ≤ 1 ∧ Blk wr g .u32 74 cap ss ∧ Hid (ss.length = zs.length) ∧ Words 4294967296 ss ∧ Hid (∀ j, j < o ∨ o + k ≤ j → ss[j]?.getD 0 = zs[j]?.getD 0) ∧ Hid (val 4294967296 ((ss.drop o).take k) - (cc + b) * 4294967296 ^ k = val 4294967296 ((zs.drop o).take k) - s * val 4294967296 (ys.take k)) ∧ w.grownBy wr (some g)) (fun _ _ _ _ _ i _ => n - (intOf i).toNat)
  case atStart => exact ⟨0, 0, 0, zs, Nat.zero_le _, rfl, rfl, rfl, by omega, by omega, by omega, by omega, hz, rfl, hzw, fun _ _ => rfl, by simp [val, Hid], grown_refl _ _⟩
  case round =>
    obtain ⟨k, cc, b, ss, hk, rfl, rfl, rfl, hc0, hc1, hb0, hb1, hblk, hsl, hsw, HE, HV, hgr⟩ := hrel
    have hbel := grown_below' hw hgr hg
    have hsz := hsl.out
    by_cases hlt : k < n
    · obtain ⟨y, rfl⟩ := hb.some_of (i := k) (by omega)
      obtain ⟨p, hp, hp0, hp1⟩ := hb.words.get (by decide) k
      obtain ⟨q, hq, hq0, hq1⟩ := hsw.get (by decide) (o + k)
      have hca := (hb.next hbel).cell y rfl k (by omega)
      have hcs := hblk.cell (o + k) (by omega)
      have hfr := hblk.frozen (o + k)
      have hzq : (zs.drop o)[k]?.getD 0 = q := by rw [drop_at, ← HE.out (o + k) (.inr (Nat.le_refl _))]; exact hq
      have hm := mul_word hp0 hp1 hs0 hs1
      have hbf := bor_fact q ((p * s + cc) % 4294967296) b hq0 hq1 (by omega) (by omega) hb0 hb1
      have HS : Hid (Hid (val 4294967296 (((ss.set (o + k) ((q - (p * s + cc) % 4294967296 - b) % 4294967296)).drop o).take (k + 1)) - ((p * s + cc) / 4294967296 + bor q ((p * s + cc) % 4294967296) b) * 4294967296 ^ (k + 1) = val 4294967296 ((zs.drop o).take (k + 1)) - s * val 4294967296 (ys.take (k + 1)))) := by
        show _ = _
        rw [drop_set]
        exact subsc_step (by rw [List.length_drop]; omega) hp hzq (by rw [hbf.1]) rfl HV.out
      rw [hp] at hca
      rw [hq] at hcs
      have hbb := hbf.2
      clear hp hq HV hzq hbf
      generalize hbo : bor q ((p * s + cc) % 4294967296) b = b' at *
      replace hbo : Hid _ := hbo
      replace hsz : Hid _ := hsz
      go_wp2_with (go_at_call 126; refine (sub32 _ _ _ _ (by omega) (by omega) (by omega) (by omega) (by omega) (by omega)).mono ?_; rintro e w' ⟨rfl, rfl⟩; rw [hbo.out])
      go_roundw
      case rel => exact ⟨k + 1, _, _, _, by omega, by go_num, rfl, rfl, by omega, by omega, hbb.1, hbb.2, hblk.set (o + k) _, by show _ = _; rw [List.length_set]; exact hsl.out, hsw.set (o + k) (by omega), fun j hj => by rw [List.getElem?_set_ne (by omega)]; exact HE.out j (by omega), HS, grown_set hgr _ _⟩
      case measure => simp [intOf]; omega
    · obtain rfl : k = n := by omega
      obtain ⟨q, hq, hq0, hq1⟩ := hsw.get (by decide) (o + k)
      have hcs := hblk.cell (o + k) (by omega)
      have hfr := hblk.frozen (o + k)
      have hzq : (zs.drop o)[k]?.getD 0 = q := by rw [drop_at, ← HE.out (o + k) (.inr (Nat.le_refl _))]; exact hq
      have hcm : cc % 4294967296 = cc := by omega
      have hbf := bor_fact q cc b hq0 hq1 hc0 hc1 hb0 hb1
      have HS : Hid (val 4294967296 (((ss.set (o + k) ((q - cc - b) % 4294967296)).drop o).take (k + 1)) - bor q cc b * 4294967296 ^ (k + 1) = val 4294967296 ((zs.drop o).take (k + 1)) - s * val 4294967296 ys) := by
        have e := subsc_step (s := s) (c := cc) (b := b) (c' := 0) (b' := bor q cc b) (y := 0) (z := q) (d := (q - cc - b) % 4294967296) (show k < (ss.drop o).length by rw [List.length_drop]; omega) (at_out (zs := ys) (by omega)) hzq (by rw [hbf.1]; simp; omega) (by simp; omega) HV.out
        rw [Int.zero_add, take_all (zs := ys) (by omega)] at e
        show _ = _
        rw [drop_set]
        exact e
      rw [hq] at hcs
      have hbb := hbf.2
      clear hq HV hzq hbf
      generalize hbo : bor q cc b = b' at *
      replace hbo : Hid _ := hbo
      replace hsz : Hid _ := hsz
      go_wp2_with (go_at_call 126; refine (sub32 _ _ _ _ (by omega) (by omega) (by omega) (by omega) (by omega) (by omega)).mono ?_; rintro e w' ⟨rfl, rfl⟩; rw [hbo.out])
      go_ret
      exact ⟨b', _, rfl, hbb.1, hbb.2, hblk.set (o + k) _, by rw [List.length_set]; exact hsl.out, hsw.set (o + k) (by omega), fun j hj => by rw [List.getElem?_set_ne (by omega)]; exact HE.out j (by omega), HS.out, grown_set hgr _ _⟩
set_option maxHeartbeats 2000000 in
theorem addBack_any (w0 : World) (g o n capT capB cap : Nat) (zs ys : List Int) (y : Option Addr) (w : World) (hb : Row w0 .u32 4294967296 y capB ys) (hw : Below w0.heap.size w0 w) (hg : w0.heap.size ≤ g)
    (hz : Blk w g .u32 74 cap zs) (hzw : Words 4294967296 zs) (hn : ys.length = n) (ho : o + n + 1 ≤ zs.length) (hl : zs.length ≤ 4000000) :
    Calls Tryz.prog 137 #[.slice (some ⟨g, o, none⟩) (n + 1) capT, .slice y n capB] w fun e w' => ∃ (v : Value) (c : Int) (zs' : List Int), e = .returned v ∧ 0 ≤ c ∧ c ≤ 1 ∧ Blk w' g .u32 74 cap zs' ∧ zs'.length = zs.length ∧ Words 4294967296 zs' ∧ (∀ j, j < o ∨ o + n < j → zs'[j]?.getD 0 = zs[j]?.getD 0) ∧ val 4294967296 ((zs'.drop o).take (n + 1)) + c * 4294967296 ^ (n + 1) = val 4294967296 ((zs.drop o).take (n + 1)) + val 4294967296 ys ∧ w.grownBy w' (some g) := by
  go_enter Tryz.func137, Tryz.ntmps137
  go_wp2
  go_loopw [4, 5, 6, 9] (fun cy u5 u6 i wr => ∃ (k : Nat) (cc : Int) (ss : List Int), k ≤ n ∧ i = .int .i64 k ∧ cy = .int .u32 cc ∧ 0 ≤ cc ∧ cc ≤ 1 ∧ Blk wr g .u32 74 cap ss ∧ Hid (ss.length = zs.length) ∧ Words 4294967296 ss ∧ Hid (∀ j, j < o ∨ o + k ≤ j → ss[j]?.getD 0 = zs[j]?.getD 0) ∧ Hid (val 4294967296 ((ss.drop o).take k) + cc * 4294967296 ^ k = val 4294967296 ((zs.drop o).take k) + val 4294967296 (ys.take k)) ∧ w.grownBy wr (some g)) (fun _ _ _ i _ => n - (intOf i).toNat)
  case atStart => exact ⟨0, 0, zs, Nat.zero_le _, rfl, rfl, by omega, by omega, hz, rfl, hzw, fun _ _ => rfl, by simp [val, Hid], grown_refl _ _⟩
  case round =>
    obtain ⟨k, cc, ss, hk, rfl, rfl, hc0, hc1, hblk, hsl, hsw, HE, HV, hgr⟩ := hrel
    have hbel := grown_below' hw hgr hg
    have hsz := hsl.out
    by_cases hlt : k < n
    · obtain ⟨y, rfl⟩ := hb.some_of (i := k) (by omega)
      obtain ⟨p, hp, hp0, hp1⟩ := hb.words.get (by decide) k
      obtain ⟨q, hq, hq0, hq1⟩ := hsw.get (by decide) (o + k)
      have hca := (hb.next hbel).cell y rfl k (by omega)
      have hcs := hblk.cell (o + k) (by omega)
      have hfr := hblk.frozen (o + k)
      have hzq : (zs.drop o)[k]?.getD 0 = q := by rw [drop_at, ← HE.out (o + k) (.inr (Nat.le_refl _))]; exact hq
      have HS : Hid (Hid (val 4294967296 (((ss.set (o + k) ((q + p + cc) % 4294967296)).drop o).take (k + 1)) + ((q + p + cc) / 4294967296) * 4294967296 ^ (k + 1) = val 4294967296 ((zs.drop o).take (k + 1)) + val 4294967296 (ys.take (k + 1)))) := by
        show _ = _
        rw [drop_set]
        exact add_step (by decide) (by rw [List.length_drop]; omega) hzq hp HV.out
      rw [hp] at hca
      rw [hq] at hcs
      clear hp hq HV hzq
      replace hsz : Hid _ := hsz
      go_wp2_with (go_at_call 125; refine (add32 _ _ _ _ (by omega) (by omega) (by omega) (by omega) (by omega) (by omega)).mono ?_; rintro e w' ⟨rfl, rfl⟩)
      go_roundw
      case rel => exact ⟨k + 1, _, _, by omega, by go_num, rfl, by omega, by omega, hblk.set (o + k) _, by show _ = _; rw [List.length_set]; exact hsl.out, hsw.set (o + k) (by omega), fun j hj => by rw [List.getElem?_set_ne (by omega)]; exact HE.out j (by omega), HS, grown_set hgr _ _⟩
      case measure => simp [intOf]; omega
    · obtain rfl : k = n := by omega
      obtain ⟨q, hq, hq0, hq1⟩ := hsw.get (by decide) (o + k)
      have hcs := hblk.cell (o + k) (by omega)
      have hfr := hblk.frozen (o + k)
      have hzq : (zs.drop o)[k]?.getD 0 = q := by rw [drop_at, ← HE.out (o + k) (.inr (Nat.le_refl _))]; exact hq
      have HS : Hid (val 4294967296 (((ss.set (o + k) ((q + cc) % 4294967296)).drop o).take (k + 1)) + ((q + cc) / 4294967296) * 4294967296 ^ (k + 1) = val 4294967296 ((zs.drop o).take (k + 1)) + val 4294967296 ys) := by
        have e := add_step (B := 4294967296) (ss := ss.drop o) (c := cc) (p := q) (q := 0) (by decide) (show k < (ss.drop o).length by rw [List.length_drop]; omega) hzq (at_out (zs := ys) (by omega)) HV.out
        rw [Int.add_zero, take_all (zs := ys) (n := k + 1) (by omega)] at e
        show _ = _
        rw [drop_set]
        exact e
      rw [hq] at hcs
      clear hq HV hzq
      replace hsz : Hid _ := hsz
      go_wp2
      exact bodyPost_end (v := .tuple #[]) (by simp [results, Tryz.results137, go_sem]) rfl ⟨_, (q + cc) / 4294967296, _, rfl, by omega, by omega, hblk.set (o + k) _, by rw [List.length_set]; exact hsl.out, hsw.set (o + k) (by omega), fun j hj => by rw [List.getElem?_set_ne (by omega)]; exact HE.out j (by omega), HS.out, grown_set hgr _ _⟩
end Go.Proofs.YthiiglhecajhbaaGreat
namespace Go.Proofs.YthiiglhecajhbaaGreat
open Go.RowKit
attribute [local go_sem ↓] Go.wp_at_zero Go.wp_at_succ
theorem drop_same {xs ys : List Int} {k : Nat} (hl : xs.length = ys.length) (h : ∀ j, k ≤ j → xs[j]?.getD 0 = ys[j]?.getD 0) : xs.drop k = ys.drop k := by
  apply List.ext_getElem?
  intro i
  rw [List.getElem?_drop, List.getElem?_drop]
  by_cases hi : k + i < xs.length
  · have := h (k + i) (by omega)
    rw [List.getElem?_eq_getElem hi, List.getElem?_eq_getElem (by omega)] at this ⊢
    simpa using this
  · rw [List.getElem?_eq_none (by omega), List.getElem?_eq_none (by omega)]
/-- The part of a row from place o on, where all beyond n + 1 places is nought. -/
theorem tail_part {zs : List Int} {o n : Nat} (hw : Words 4294967296 zs) (hs : val 4294967296 (zs.drop o) < 4294967296 ^ (n + 1)) (ho : o + n + 1 ≤ zs.length) : val 4294967296 ((zs.drop o).take (n + 1)) = val 4294967296 (zs.drop o) ∧ val 4294967296 (zs.drop (o + (n + 1))) = 0 := by
  have e := val_take_small (by decide) (hw.drop o) hs
  refine ⟨e, ?_⟩
  have e2 := val_split 4294967296 (zs.drop o) (n + 1) (by rw [List.length_drop]; omega)
  rw [List.drop_drop] at e2
  have hp := pow_pos' (B := 4294967296) (by decide) (n + 1)
  have h0 : (4294967296 : Int) ^ (n + 1) * val 4294967296 (zs.drop (o + (n + 1))) = 0 := by omega
  rcases Int.mul_eq_zero.1 h0 with h | h
  · omega
  · exact h
theorem part_tail {zs : List Int} {o n : Nat} (ho : o + n + 1 ≤ zs.length) (h : val 4294967296 (zs.drop (o + (n + 1))) = 0) : val 4294967296 (zs.drop o) = val 4294967296 ((zs.drop o).take (n + 1)) := by
  have e2 := val_split 4294967296 (zs.drop o) (n + 1) (by rw [List.length_drop]; omega)
  rw [List.drop_drop, h] at e2
  omega
theorem Blk.part {w : World} {g cap o n capT : Nat} {zs : List Int} (h : Blk w g .u32 74 cap zs) (hw : Words 4294967296 zs) (ho : o + n ≤ zs.length) (hc : n ≤ capT) (hm : capT ≤ maxLen) : Row w .u32 4294967296 (some ⟨g, o, none⟩) capT ((zs.drop o).take n) := by
  have hl : ((zs.drop o).take n).length = n := by rw [List.length_take, List.length_drop]; omega
  refine ⟨by omega, hm, fun h => (by cases h), fun x hx i hi => ?_, (hw.drop o).take n⟩
  cases hx
  rw [addr_add, h.cell (o + i) (by omega), List.getElem?_take_of_lt (by omega), List.getElem?_drop]
set_option maxHeartbeats 2000000 in
theorem divideStep_any (w0 : World) (g o m capT capB cap : Nat) (zs ys : List Int) (y : Addr) (w : World) (hb : Row w0 .u32 4294967296 (some y) capB ys) (hw : Below w0.heap.size w0 w) (hg : w0.heap.size ≤ g)
    (hz : Blk w g .u32 74 cap zs) (hzw : Words 4294967296 zs) (hn : ys.length = m + 2) (ho : o + (m + 2) + 1 ≤ zs.length) (hl : zs.length ≤ 1000000) (hc : m + 2 + 1 ≤ capT) (hcm : capT ≤ maxLen) (hd : 2147483648 ≤ ys[m + 1]?.getD 0) (hsm : val 4294967296 (zs.drop (o + 1)) < val 4294967296 ys) :
    Calls Tryz.prog 123 #[.slice (some ⟨g, o, none⟩) (m + 2 + 1) capT, .slice (some y) (m + 2) capB] w fun e w' => ∃ (q : Int) (zs' : List Int), e = .returned (.int .u32 q) ∧ 0 ≤ q ∧ q < 4294967296 ∧ Blk w' g .u32 74 cap zs' ∧ zs'.length = zs.length ∧ Words 4294967296 zs' ∧ (∀ j, j < o → zs'[j]?.getD 0 = zs[j]?.getD 0) ∧ val 4294967296 (zs.drop o) = val 4294967296 ys * q + val 4294967296 (zs'.drop o) ∧ val 4294967296 (zs'.drop o) < val 4294967296 ys ∧ w.grownBy w' (some g) := by
  have hD := val_lt (B := 4294967296) (by decide) hb.words
  rw [hn] at hD
  have hD0 := val_nonneg (B := 4294967296) (by decide) hb.words
  have hR0 : val 4294967296 (zs.drop o) < val 4294967296 ys * 4294967296 := by
    rw [val_drop]
    have := (hzw.at (by decide) o)
    omega
  have hR1 : val 4294967296 (zs.drop o) < 4294967296 ^ (m + 2 + 1) := by rw [Int.pow_succ]; omega
  have hpart := tail_part hzw hR1 ho
  have hRow := hz.part (o := o) (n := m + 2 + 1) (capT := capT) hzw (by omega) hc hcm
  have hlen : ((zs.drop o).take (m + 2 + 1)).length = m + 2 + 1 := by rw [List.length_take, List.length_drop]; omega
  have kg := guessWord_any ⟨g, o, none⟩ y capT capB m _ ys w hRow (hb.next hw) hlen hn (by omega) hd (by rw [hpart.1]; exact hR0)
  rw [hpart.1] at kg
  replace kg : Hid _ := kg
  go_enter Tryz.func123, Tryz.ntmps123
  go_wp2_with fail
  refine Calls.mono kg.out ?_
  rintro e w1 ⟨q, rfl, hq0, hq1, hqa, hqb, hb1⟩
  clear kg
  have hw1 := hw.trans (hb1.mono hw.size)
  have ks := subtractScaled_any w0 g o (m + 2) capT capB cap zs ys (some y) q w1 hb hw1 hg (hz.next hb1) hzw hn ho (by omega) hq0 hq1
  rw [hpart.1] at ks
  replace ks : Hid _ := ks
  replace hqa : Hid _ := hqa
  replace hqb : Hid _ := hqb
  replace hpart : Hid _ := hpart
  replace hR0 : Hid _ := hR0
  replace hR1 : Hid _ := hR1
  replace hD : Hid _ := hD
  replace hsm : Hid _ := hsm
  replace hlen : Hid _ := hlen
  clear hRow
  have hg1 : w.grownBy w1 (some g) := ⟨hb1.os, hb1.tape, hb1.output, hb1.size, fun k hk _ => hb1.block k hk⟩
  go_wp2_with fail
  refine Calls.mono ks.out ?_
  rintro e w2 ⟨b, zs1, rfl, hb0, hbb1, hblk1, hl1, hw1', hsame1, hval1, hgr1⟩
  clear ks
  have hg2 : w.grownBy w2 (some g) := hg1.trans hgr1
  replace hl1 : Hid _ := hl1
  replace hval1 : Hid _ := hval1
  by_cases hbz : b = 0
  · have hbz' : (b != 0) = false := by simp [hbz]
    replace hbz : Hid _ := hbz
    go_wp2
    go_ret
    have ht : val 4294967296 (zs1.drop (o + (m + 2 + 1))) = 0 := by
      rw [drop_same hl1.out (fun j hj => hsame1 j (.inr (by omega)))]
      exact hpart.out.2
    have hv := part_tail (n := m + 2) (by rw [hl1.out]; exact ho) ht
    have e1 := hval1.out
    rw [hbz.out, ← hv] at e1
    have e2 := hqb.out
    rw [Int.add_mul, Int.one_mul] at e2
    refine ⟨q, zs1, rfl, hq0, hq1, hblk1, hl1.out, hw1', fun j hj => hsame1 j (.inl hj), ?_, ?_, hg2⟩
    · rw [Int.mul_comm]; omega
    · omega
  · have hbz' : (b != 0) = true := by simp [hbz]
    have hb1' : b = 1 := by omega
    replace hbz : Hid _ := hbz
    replace hb1' : Hid _ := hb1'
    have hqp : 1 ≤ q := by
      have e1 := hval1.out
      rw [hb1'.out] at e1
      by_cases h : 1 ≤ q
      · exact h
      · have e2 : q = 0 := by omega
        have e3 := val_lt (B := 4294967296) (by decide) ((hw1'.drop o).take (m + 2 + 1))
        have e5 := val_nonneg (B := 4294967296) (by decide) (hzw.drop o)
        have e4 : ((zs1.drop o).take (m + 2 + 1)).length = m + 2 + 1 := by rw [List.length_take, List.length_drop, hl1.out]; omega
        rw [e4] at e3
        rw [e2] at e1
        omega
    have ka := addBack_any w0 g o (m + 2) capT capB cap zs1 ys (some y) w2 hb (grown_below' hw1 hgr1 hg) hg hblk1 hw1' hn (by rw [hl1.out]; exact ho) (by rw [hl1.out]; omega)
    replace ka : Hid _ := ka
    go_wp2_with fail
    refine Calls.mono ka.out ?_
    rintro e w3 ⟨v, c, zs2, rfl, hc0, hc1, hblk2, hl2, hw2', hsame2, hval2, hgr2⟩
    clear ka
    replace hl2 : Hid _ := hl2
    replace hval2 : Hid _ := hval2
    go_wp2
    go_ret
    have hl3 := hl2.out.trans hl1.out
    have ht : val 4294967296 (zs2.drop (o + (m + 2 + 1))) = 0 := by
      rw [drop_same hl3 (fun j hj => (hsame2 j (.inr (by omega))).trans (hsame1 j (.inr (by omega))))]
      exact hpart.out.2
    have hv := part_tail (n := m + 2) (by rw [hl3]; exact ho) ht
    have e1 := hval1.out
    have e2 := hval2.out
    have e3 := hqa.out
    rw [hb1'.out, Int.one_mul] at e1
    have e6 := val_lt (B := 4294967296) (by decide) ((hw2'.drop o).take (m + 2 + 1))
    have e7 : ((zs2.drop o).take (m + 2 + 1)).length = m + 2 + 1 := by rw [List.length_take, List.length_drop, hl3]; omega
    rw [e7] at e6
    have e8 := val_nonneg (B := 4294967296) (by decide) ((hw2'.drop o).take (m + 2 + 1))
    have e9 := val_nonneg (B := 4294967296) (by decide) ((hw1'.drop o).take (m + 2 + 1))
    have hpp := pow_pos' (B := 4294967296) (by decide) (m + 2 + 1)
    have e10 := val_lt (B := 4294967296) (by decide) ((hw1'.drop o).take (m + 2 + 1))
    have e11 : ((zs1.drop o).take (m + 2 + 1)).length = m + 2 + 1 := by rw [List.length_take, List.length_drop, hl1.out]; omega
    rw [e11] at e10
    have hcc : c = 1 := by
      rcases (by omega : c = 0 ∨ c = 1) with h | h
      · rw [h] at e2; omega
      · exact h
    rw [hcc, Int.one_mul, ← hv] at e2
    refine ⟨q - 1, zs2, rfl, by omega, by omega, hblk2, hl3, hw2', fun j hj => (hsame2 j (.inl hj)).trans (hsame1 j (.inl hj)), ?_, ?_, hg2.trans hgr2⟩
    · rw [Int.mul_sub, Int.mul_one, Int.mul_comm]; omega
    · omega
end Go.Proofs.YthiiglhecajhbaaGreat
