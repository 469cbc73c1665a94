/- The second road's product of magnitudes. -/
import Derived.Test.YtdcjgepgiaaaoaaRb
namespace Go.Proofs.Ytdcjgepgiaaaoaa
open Go.RowKit
theorem mul_dig {p s : Int} (hp0 : 0 ≤ p) (hp1 : p < 65536) (hs0 : 0 ≤ s) (hs1 : s < 65536) : 0 ≤ p * s ∧ p * s ≤ 4294836225 := by
  refine ⟨Int.mul_nonneg hp0 hs0, ?_⟩
  have h1 : p * s ≤ 65535 * s := Int.mul_le_mul_of_nonneg_right (by omega) hs0
  omega
theorem rmul_end {xs ys zs ss : List Int} {i j : Nat} {s : Int} (hx : xs[i]?.getD 0 = s) (hz : val 65536 zs = val 65536 (xs.take i) * val 65536 ys) (hj : ys.length ≤ j)
    (hzz : ∀ t, i + ys.length ≤ t → zs[t]?.getD 0 = 0) (hss : ∀ t, i + j ≤ t → ss[t]?.getD 0 = zs[t]?.getD 0)
    (h : val 65536 (ss.take (i + j)) + 0 * 65536 ^ (i + j) = val 65536 (zs.take (i + j)) + s * val 65536 (ys.take j) * 65536 ^ i) : val 65536 ss = val 65536 (xs.take (i + 1)) * val 65536 ys := by
  rw [val_zero_tail _ ss (i + j) (fun t ht => by rw [hss t ht, hzz t (by omega)]), val_zero_tail _ zs (i + j) (fun t ht => hzz t (by omega)), take_all (by omega : ys.length ≤ j), hz] at h
  rw [val_take_succ, hx, Int.add_mul]
  have e : s * 65536 ^ i * val 65536 ys = s * val 65536 ys * 65536 ^ i := by rw [Int.mul_assoc, Int.mul_comm (65536 ^ i), ← Int.mul_assoc]
  rw [e]; omega
set_option maxHeartbeats 2000000 in
theorem rmul_any (x y : Option Addr) (ca cb : Nat) (xs ys : List Int) (w : World) (ha : Row w .i64 65536 x ca xs) (hb : Row w .i64 65536 y cb ys) (hl : xs.length ≤ 1000000) (hlb : ys.length ≤ 1000000) :
    Calls Try.prog 47 #[.slice x xs.length ca, .slice y ys.length cb] w fun e w' => ∃ a' cap' ds, e = .returned (.slice a' ds.length cap') ∧ Rown w' w.heap.size a' cap' ds ∧ nrm ds ∧ val 65536 ds = val 65536 xs * val 65536 ys ∧ ds.length ≤ xs.length + ys.length + 1 ∧ Below w.heap.size w w' := by
  have hmk := mk28 ((xs.length : Int) + (ys.length : Int) + 1) (by omega) (by omega) w
  rw [show ((xs.length : Int) + (ys.length : Int) + 1).toNat = xs.length + ys.length + 1 from by omega] at hmk
  go_enter Try.func47, Try.ntmps47
  go_wp2
  go_loopw [6, 7, 8] (fun i u7 u8 wr => ∃ (k : Nat) (zs : List Int), k ≤ xs.length ∧ i = .int .i64 k ∧ Blk wr w.heap.size .i64 3 (xs.length + ys.length + 1) zs ∧ zs.length = xs.length + ys.length + 1 ∧ Words 65536 zs ∧ Hid (val 65536 zs = val 65536 (xs.take k) * val 65536 ys) ∧ Hid (∀ t, k + ys.length ≤ t → zs[t]?.getD 0 = 0) ∧ Below w.heap.size w wr) (fun i _ _ _ => xs.length - (intOf i).toNat)
  case atStart => exact ⟨0, zeros (xs.length + ys.length + 1), Nat.zero_le _, rfl, by have := Blk.new w .i64 3 (zeros (xs.length + ys.length + 1)) (by rw [zeros_len]; unfold maxLen; omega); rwa [zeros_len] at this, zeros_len _, zeros_words (by decide) _, by show val _ _ = _; rw [zeros_val]; simp [val], fun t _ => zeros_at _ t, (Below.refl _ _).alloc (Nat.le_refl _) _⟩
  case round =>
    obtain ⟨k, zs, hk, rfl, hblk0, hzl, hzw, HZ, HZZ, hbel0⟩ := hrel
    by_cases hlt : k < xs.length
    · obtain ⟨x, rfl⟩ := ha.some_of hlt
      obtain ⟨s, hs, hs0, hs1⟩ := ha.words.get (by decide) k
      have HSX : Hid (xs[k]?.getD 0 = s) := hs
      clear hs
      go_wp2
      go_loopw [7, 8] (fun c j wr' => ∃ (t : Nat) (cc : Int) (ss : List Int), t ≤ ys.length + 1 ∧ j = .int .i64 t ∧ c = .int .i64 cc ∧ 0 ≤ cc ∧ cc < 65536 ∧ (t = ys.length + 1 → cc = 0) ∧ Blk wr' w.heap.size .i64 3 (xs.length + ys.length + 1) ss ∧ ss.length = xs.length + ys.length + 1 ∧ Words 65536 ss ∧ Hid (∀ i, k + t ≤ i → ss[i]?.getD 0 = zs[i]?.getD 0) ∧ Hid (val 65536 (ss.take (k + t)) + cc * 65536 ^ (k + t) = val 65536 (zs.take (k + t)) + s * val 65536 (ys.take t) * 65536 ^ k) ∧ Below w.heap.size w wr') (fun _ j _ => ys.length + 1 - (intOf j).toNat)
      case atStart => exact ⟨0, 0, zs, Nat.zero_le _, rfl, rfl, by omega, by omega, fun _ => rfl, hblk0, hzl, hzw, fun _ _ => rfl, by simp [val, Hid], hbel0⟩
      case round =>
        obtain ⟨t, cc, ss, ht, rfl, rfl, hc0, hc1, hcz, hblk, hsl, hsw, HE, HV, hbel⟩ := hrel
        by_cases htl : t < ys.length
        · obtain ⟨y, rfl⟩ := hb.some_of htl
          obtain ⟨p, hp, hp0, hp1⟩ := hb.words.get (by decide) t
          obtain ⟨q, hq, hq0, hq1⟩ := hsw.get (by decide) (k + t)
          have hca := (ha.next hbel).cell x rfl k hlt
          have hcb := (hb.next hbel).cell y rfl t htl
          have hcs := hblk.cell (k + t) (by omega)
          have hfr := hblk.frozen (k + t)
          have hzq : zs[k + t]?.getD 0 = q := by rw [← HE.out (k + t) (Nat.le_refl _)]; exact hq
          have HS : Hid (Hid (val 65536 ((ss.set (k + t) ((p * s + q + cc) % 65536)).take (k + (t + 1))) + ((p * s + q + cc) / 65536) * 65536 ^ (k + (t + 1)) = val 65536 (zs.take (k + (t + 1))) + s * val 65536 (ys.take (t + 1)) * 65536 ^ k)) := scale_step (by omega) hp hzq HV.out
          rw [show p * s + q + cc = cc + q + s * p from by rw [Int.mul_comm p s]; omega] at HS
          have hm := mul_dig hs0 hs1 hp0 hp1
          rw [HSX.out] at hca
          rw [hp] at hcb
          rw [hq] at hcs
          clear hp hq HV hzq hcz
          go_wp2
          go_quiet (fail)
          have hblk' : Blk (wr.drewN nq) w.heap.size .i64 3 (xs.length + ys.length + 1) ss := hblk.below (below_drewN (Below.refl (wr.heap.size) _) nq) hblk.lt
          have hbel' : Below w.heap.size w (wr.drewN nq) := below_drewN hbel nq
          generalize wr.drewN nq = w2 at *
          have hcs' := hblk'.cell (k + t) (by omega)
          have hfr' := hblk'.frozen (k + t)
          generalize ss[k + t]?.getD 0 = old at hcs'
          clear hcs hfr hca hcb hblk hbel
          go_wp2
          go_roundw
          case rel => exact ⟨t + 1, _, _, by omega, by go_num, rfl, by omega, by omega, by omega, hblk'.set (k + t) _, by simpa using hsl, hsw.set (k + t) (by omega), fun i hi => by rw [List.getElem?_set_ne (by omega)]; exact HE.out i (by omega), HS, hbel'.setCell (Nat.le_refl _) _⟩
          case measure => simp [intOf]; omega
        · by_cases hcp : 0 < cc
          · have hte : t = ys.length := by
              by_cases h : t = ys.length + 1
              · have := hcz h; omega
              · omega
            have hcs := hblk.cell (k + t) (by omega)
            have hfr := hblk.frozen (k + t)
            have hzq : zs[k + t]?.getD 0 = 0 := HZZ.out (k + t) (by omega)
            have hq : ss[k + t]?.getD 0 = 0 := by rw [HE.out (k + t) (Nat.le_refl _)]; exact hzq
            have HS : Hid (Hid (val 65536 ((ss.set (k + t) ((0 * s + 0 + cc) % 65536)).take (k + (t + 1))) + ((0 * s + 0 + cc) / 65536) * 65536 ^ (k + (t + 1)) = val 65536 (zs.take (k + (t + 1))) + s * val 65536 (ys.take (t + 1)) * 65536 ^ k)) := scale_step (by omega) (Row.at_out htl) hzq HV.out
            rw [show (0 : Int) * s + 0 + cc = cc + 0 from by omega, Int.add_zero] at HS
            rw [hq] at hcs
            have hcp' : cc > 0 := hcp
            clear hq HV hzq hcz
            have ht2 : t ≤ ys.length := by omega
            replace hte : Hid _ := hte
            go_wp2
            go_roundw
            case rel => exact ⟨t + 1, _, _, by omega, by go_num, rfl, by omega, by omega, by omega, hblk.set (k + t) _, by simpa using hsl, hsw.set (k + t) (by omega), fun i hi => by rw [List.getElem?_set_ne (by omega)]; exact HE.out i (by omega), HS, hbel.setCell (Nat.le_refl _) _⟩
            case measure => simp [intOf]; omega
          · obtain rfl : cc = 0 := by omega
            have HS := rmul_end HSX.out HZ.out (by omega) HZZ.out HE.out HV.out
            replace HS : Hid _ := HS
            clear HV hcz
            go_wp2
            go_roundw
            case rel => exact ⟨k + 1, ss, by omega, by go_num, hblk, hsl, hsw, HS, fun i hi => by rw [HE.out i (by omega)]; exact HZZ.out i (by omega), hbel⟩
            case measure => simp [intOf]; omega
    · obtain rfl : k = xs.length := by omega
      have HV' := HZ.out
      rw [take_all (Nat.le_refl _)] at HV'
      replace HV' : Hid _ := HV'
      have hrw := hblk0.row hzw
      have htr := rtrim_any _ _ zs wr hrw
      rw [hzl] at htr
      go_wp2_with fail
      refine Calls.mono htr ?_
      rintro e w' ⟨rfl, rfl⟩
      go_wp2
      go_ret
      exact ⟨_, _, trimmed zs, rfl, ⟨hrw.cutTrim, fun x hx => by cases hx; exact Nat.le_refl _⟩, trimmed_nrm zs, by rw [trimmed_val]; exact HV'.out, by have := trimmed_le zs; omega, hbel0⟩
end Go.Proofs.Ytdcjgepgiaaaoaa
