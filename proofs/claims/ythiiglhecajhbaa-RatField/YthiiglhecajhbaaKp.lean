/- Contracts of subtractScaled and addBack. -/
import Derived.Test.YthiiglhecajhbaaKo
namespace Go.Proofs.Ythiiglhecajhbaa
open Go.RowKit
attribute [local go_sem ↓] Go.wp_at_zero Go.wp_at_succ
theorem grown_below' {w0 w w' : World} {g : Nat} (hw : Below w0.heap.size w0 w) (h : w.grownBy w' (some g)) (hg : w0.heap.size ≤ g) : Below w0.heap.size w0 w' := hw.trans (grown_below h hg hw.size)
theorem bor_fact (z t b : Int) (hz0 : 0 ≤ z) (hz1 : z < 4294967296) (ht0 : 0 ≤ t) (ht1 : t < 4294967296) (hb0 : 0 ≤ b) (hb1 : b ≤ 1) : (z - t - b) % 4294967296 = z - t - b + 4294967296 * bor z t b ∧ 0 ≤ bor z t b ∧ bor z t b ≤ 1 := by
  unfold bor
  split <;> omega
set_option maxHeartbeats 2000000 in
theorem subtractScaled_any (w0 : World) (g o n capT capB cap : Nat) (zs ys : List Int) (y : Option Addr) (s : Int) (w : World) (hb : Row w0 .u32 4294967296 y capB ys) (hw : Below w0.heap.size w0 w) (hg : w0.heap.size ≤ g)
    (hz : Blk w g .u32 54 cap zs) (hzw : Words 4294967296 zs) (hn : ys.length = n) (ho : o + n + 1 ≤ zs.length) (hl : zs.length ≤ 4000000) (hs0 : 0 ≤ s) (hs1 : s < 4294967296) :
    Calls Try.prog 93 #[.slice (some ⟨g, o, none⟩) (n + 1) capT, .slice y n capB, .int .u32 s] w fun e w' => ∃ (b : Int) (zs' : List Int), e = .returned (.bool (b != 0)) ∧ 0 ≤ b ∧ b ≤ 1 ∧ Blk w' g .u32 54 cap zs' ∧ zs'.length = zs.length ∧ Words 4294967296 zs' ∧ (∀ j, j < o ∨ o + n < j → zs'[j]?.getD 0 = zs[j]?.getD 0) ∧ val 4294967296 ((zs'.drop o).take (n + 1)) - b * 4294967296 ^ (n + 1) = val 4294967296 ((zs.drop o).take (n + 1)) - s * val 4294967296 ys ∧ w.grownBy w' (some g) := by
  go_enter Try.func93, Try.ntmps93
  go_wp2
  go_loopw [7, 8, 9, 10, 11, 15] (fun cy bo u9 u10 u11 i wr => ∃ (k : Nat) (cc b : Int) (ss : List Int), k ≤ n ∧ i = .int .i64 k ∧ cy = .int .u64 cc ∧ bo = .int .u32 b ∧ 0 ≤ cc ∧ cc < 4294967296 ∧ 0 ≤ b ∧ b ≤ 1 ∧ Blk wr g .u32 54 cap ss ∧ Hid (ss.length = zs.length) ∧ Words 4294967296 ss ∧ Hid (∀ j, j < o ∨ o + k ≤ j → ss[j]?.getD 0 = zs[j]?.getD 0) ∧ Hid (val 4294967296 ((ss.drop o).take k) - (cc + b) * 4294967296 ^ k = val 4294967296 ((zs.drop o).take k) - s * val 4294967296 (ys.take k)) ∧ w.grownBy wr (some g)) (fun _ _ _ _ _ i _ => n - (intOf i).toNat)
  case atStart => exact ⟨0, 0, 0, zs, Nat.zero_le _, rfl, rfl, rfl, by omega, by omega, by omega, by omega, hz, rfl, hzw, fun _ _ => rfl, by simp [val, Hid], grown_refl _ _⟩
  case round =>
    obtain ⟨k, cc, b, ss, hk, rfl, rfl, rfl, hc0, hc1, hb0, hb1, hblk, hsl, hsw, HE, HV, hgr⟩ := hrel
    have hbel := grown_below' hw hgr hg
    have hsz := hsl.out
    by_cases hlt : k < n
    · obtain ⟨y, rfl⟩ := hb.some_of (i := k) (by omega)
      obtain ⟨p, hp, hp0, hp1⟩ := hb.words.get (by decide) k
      obtain ⟨q, hq, hq0, hq1⟩ := hsw.get (by decide) (o + k)
      have hca := (hb.next hbel).cell y rfl k (by omega)
      have hcs := hblk.cell (o + k) (by omega)
      have hfr := hblk.frozen (o + k)
      have hzq : (zs.drop o)[k]?.getD 0 = q := by rw [drop_at, ← HE.out (o + k) (.inr (Nat.le_refl _))]; exact hq
      have hm := mul_word hp0 hp1 hs0 hs1
      have hbf := bor_fact q ((p * s + cc) % 4294967296) b hq0 hq1 (by omega) (by omega) hb0 hb1
      have HS : Hid (Hid (val 4294967296 (((ss.set (o + k) ((q - (p * s + cc) % 4294967296 - b) % 4294967296)).drop o).take (k + 1)) - ((p * s + cc) / 4294967296 + bor q ((p * s + cc) % 4294967296) b) * 4294967296 ^ (k + 1) = val 4294967296 ((zs.drop o).take (k + 1)) - s * val 4294967296 (ys.take (k + 1)))) := by
        show _ = _
        rw [drop_set]
        exact subsc_step (by rw [List.length_drop]; omega) hp hzq (by rw [hbf.1]) rfl HV.out
      rw [hp] at hca
      rw [hq] at hcs
      have hbb := hbf.2
      clear hp hq HV hzq hbf
      generalize hbo : bor q ((p * s + cc) % 4294967296) b = b' at *
      replace hbo : Hid _ := hbo
      replace hsz : Hid _ := hsz
      go_wp2_with (go_at_call 77; refine (sub32 _ _ _ _ (by omega) (by omega) (by omega) (by omega) (by omega) (by omega)).mono ?_; rintro e w' ⟨rfl, rfl⟩; rw [hbo.out])
      go_roundw
      case rel => exact ⟨k + 1, _, _, _, by omega, by go_num, rfl, rfl, by omega, by omega, hbb.1, hbb.2, hblk.set (o + k) _, by show _ = _; rw [List.length_set]; exact hsl.out, hsw.set (o + k) (by omega), fun j hj => by rw [List.getElem?_set_ne (by omega)]; exact HE.out j (by omega), HS, grown_set hgr _ _⟩
      case measure => simp [intOf]; omega
    · obtain rfl : k = n := by omega
      obtain ⟨q, hq, hq0, hq1⟩ := hsw.get (by decide) (o + k)
      have hcs := hblk.cell (o + k) (by omega)
      have hfr := hblk.frozen (o + k)
      have hzq : (zs.drop o)[k]?.getD 0 = q := by rw [drop_at, ← HE.out (o + k) (.inr (Nat.le_refl _))]; exact hq
      have hcm : cc % 4294967296 = cc := by omega
      have hbf := bor_fact q cc b hq0 hq1 hc0 hc1 hb0 hb1
      have HS : Hid (val 4294967296 (((ss.set (o + k) ((q - cc - b) % 4294967296)).drop o).take (k + 1)) - bor q cc b * 4294967296 ^ (k + 1) = val 4294967296 ((zs.drop o).take (k + 1)) - s * val 4294967296 ys) := by
        have e := subsc_step (s := s) (c := cc) (b := b) (c' := 0) (b' := bor q cc b) (y := 0) (z := q) (d := (q - cc - b) % 4294967296) (show k < (ss.drop o).length by rw [List.length_drop]; omega) (at_out (zs := ys) (by omega)) hzq (by rw [hbf.1]; simp; omega) (by simp; omega) HV.out
        rw [Int.zero_add, take_all (zs := ys) (by omega)] at e
        show _ = _
        rw [drop_set]
        exact e
      rw [hq] at hcs
      have hbb := hbf.2
      clear hq HV hzq hbf
      generalize hbo : bor q cc b = b' at *
      replace hbo : Hid _ := hbo
      replace hsz : Hid _ := hsz
      go_wp2_with (go_at_call 77; refine (sub32 _ _ _ _ (by omega) (by omega) (by omega) (by omega) (by omega) (by omega)).mono ?_; rintro e w' ⟨rfl, rfl⟩; rw [hbo.out])
      go_ret
      exact ⟨b', _, rfl, hbb.1, hbb.2, hblk.set (o + k) _, by rw [List.length_set]; exact hsl.out, hsw.set (o + k) (by omega), fun j hj => by rw [List.getElem?_set_ne (by omega)]; exact HE.out j (by omega), HS.out, grown_set hgr _ _⟩
set_option maxHeartbeats 2000000 in
theorem addBack_any (w0 : World) (g o n capT capB cap : Nat) (zs ys : List Int) (y : Option Addr) (w : World) (hb : Row w0 .u32 4294967296 y capB ys) (hw : Below w0.heap.size w0 w) (hg : w0.heap.size ≤ g)
    (hz : Blk w g .u32 54 cap zs) (hzw : Words 4294967296 zs) (hn : ys.length = n) (ho : o + n + 1 ≤ zs.length) (hl : zs.length ≤ 4000000) :
    Calls Try.prog 94 #[.slice (some ⟨g, o, none⟩) (n + 1) capT, .slice y n capB] w fun e w' => ∃ (v : Value) (c : Int) (zs' : List Int), e = .returned v ∧ 0 ≤ c ∧ c ≤ 1 ∧ Blk w' g .u32 54 cap zs' ∧ zs'.length = zs.length ∧ Words 4294967296 zs' ∧ (∀ j, j < o ∨ o + n < j → zs'[j]?.getD 0 = zs[j]?.getD 0) ∧ val 4294967296 ((zs'.drop o).take (n + 1)) + c * 4294967296 ^ (n + 1) = val 4294967296 ((zs.drop o).take (n + 1)) + val 4294967296 ys ∧ w.grownBy w' (some g) := by
  go_enter Try.func94, Try.ntmps94
  go_wp2
  go_loopw [4, 5, 6, 9] (fun cy u5 u6 i wr => ∃ (k : Nat) (cc : Int) (ss : List Int), k ≤ n ∧ i = .int .i64 k ∧ cy = .int .u32 cc ∧ 0 ≤ cc ∧ cc ≤ 1 ∧ Blk wr g .u32 54 cap ss ∧ Hid (ss.length = zs.length) ∧ Words 4294967296 ss ∧ Hid (∀ j, j < o ∨ o + k ≤ j → ss[j]?.getD 0 = zs[j]?.getD 0) ∧ Hid (val 4294967296 ((ss.drop o).take k) + cc * 4294967296 ^ k = val 4294967296 ((zs.drop o).take k) + val 4294967296 (ys.take k)) ∧ w.grownBy wr (some g)) (fun _ _ _ i _ => n - (intOf i).toNat)
  case atStart => exact ⟨0, 0, zs, Nat.zero_le _, rfl, rfl, by omega, by omega, hz, rfl, hzw, fun _ _ => rfl, by simp [val, Hid], grown_refl _ _⟩
  case round =>
    obtain ⟨k, cc, ss, hk, rfl, rfl, hc0, hc1, hblk, hsl, hsw, HE, HV, hgr⟩ := hrel
    have hbel := grown_below' hw hgr hg
    have hsz := hsl.out
    by_cases hlt : k < n
    · obtain ⟨y, rfl⟩ := hb.some_of (i := k) (by omega)
      obtain ⟨p, hp, hp0, hp1⟩ := hb.words.get (by decide) k
      obtain ⟨q, hq, hq0, hq1⟩ := hsw.get (by decide) (o + k)
      have hca := (hb.next hbel).cell y rfl k (by omega)
      have hcs := hblk.cell (o + k) (by omega)
      have hfr := hblk.frozen (o + k)
      have hzq : (zs.drop o)[k]?.getD 0 = q := by rw [drop_at, ← HE.out (o + k) (.inr (Nat.le_refl _))]; exact hq
      have HS : Hid (Hid (val 4294967296 (((ss.set (o + k) ((q + p + cc) % 4294967296)).drop o).take (k + 1)) + ((q + p + cc) / 4294967296) * 4294967296 ^ (k + 1) = val 4294967296 ((zs.drop o).take (k + 1)) + val 4294967296 (ys.take (k + 1)))) := by
        show _ = _
        rw [drop_set]
        exact add_step (by decide) (by rw [List.length_drop]; omega) hzq hp HV.out
      rw [hp] at hca
      rw [hq] at hcs
      clear hp hq HV hzq
      replace hsz : Hid _ := hsz
      go_wp2_with (go_at_call 76; refine (add32 _ _ _ _ (by omega) (by omega) (by omega) (by omega) (by omega) (by omega)).mono ?_; rintro e w' ⟨rfl, rfl⟩)
      go_roundw
      case rel => exact ⟨k + 1, _, _, by omega, by go_num, rfl, by omega, by omega, hblk.set (o + k) _, by show _ = _; rw [List.length_set]; exact hsl.out, hsw.set (o + k) (by omega), fun j hj => by rw [List.getElem?_set_ne (by omega)]; exact HE.out j (by omega), HS, grown_set hgr _ _⟩
      case measure => simp [intOf]; omega
    · obtain rfl : k = n := by omega
      obtain ⟨q, hq, hq0, hq1⟩ := hsw.get (by decide) (o + k)
      have hcs := hblk.cell (o + k) (by omega)
      have hfr := hblk.frozen (o + k)
      have hzq : (zs.drop o)[k]?.getD 0 = q := by rw [drop_at, ← HE.out (o + k) (.inr (Nat.le_refl _))]; exact hq
      have HS : Hid (val 4294967296 (((ss.set (o + k) ((q + cc) % 4294967296)).drop o).take (k + 1)) + ((q + cc) / 4294967296) * 4294967296 ^ (k + 1) = val 4294967296 ((zs.drop o).take (k + 1)) + val 4294967296 ys) := by
        have e := add_step (B := 4294967296) (ss := ss.drop o) (c := cc) (p := q) (q := 0) (by decide) (show k < (ss.drop o).length by rw [List.length_drop]; omega) hzq (at_out (zs := ys) (by omega)) HV.out
        rw [Int.add_zero, take_all (zs := ys) (n := k + 1) (by omega)] at e
        show _ = _
        rw [drop_set]
        exact e
      rw [hq] at hcs
      clear hq HV hzq
      replace hsz : Hid _ := hsz
      go_wp2
      exact bodyPost_end (v := .tuple #[]) (by simp [results, Try.results94, go_sem]) rfl ⟨_, (q + cc) / 4294967296, _, rfl, by omega, by omega, hblk.set (o + k) _, by rw [List.length_set]; exact hsl.out, hsw.set (o + k) (by omega), fun j hj => by rw [List.getElem?_set_ne (by omega)]; exact HE.out j (by omega), HS.out, grown_set hgr _ _⟩
end Go.Proofs.Ythiiglhecajhbaa
