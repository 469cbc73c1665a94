/- Contract of guessWord. -/
import Derived.Test.YthiiglhecajhbaaGreatKn
namespace Go.Proofs.YthiiglhecajhbaaGreat
open Go.RowKit
attribute [local go_sem ↓] Go.wp_at_zero Go.wp_at_succ
theorem add_one_off (x : Addr) (n : Nat) : x.add (n + 1) = ⟨x.block, x.off + (n + 1), none⟩ := by simp [Addr.add]
set_option maxHeartbeats 2000000 in
theorem guessWord_any (x y : Addr) (ca cb m : Nat) (rs ys : List Int) (w : World) (ha : Row w .u32 4294967296 (some x) ca rs) (hb : Row w .u32 4294967296 (some y) cb ys) (lr : rs.length = m + 2 + 1) (ly : ys.length = m + 2) (hl : m ≤ 1000000) (hd : 2147483648 ≤ ys[m + 1]?.getD 0) (hR : val 4294967296 rs < val 4294967296 ys * 4294967296) :
    Calls Tryz.prog 135 #[.slice (some x) (m + 2 + 1) ca, .slice (some y) (m + 2) cb] w fun e w' => ∃ q : Int, e = .returned (.int .u32 q) ∧ 0 ≤ q ∧ q < 4294967296 ∧ q * val 4294967296 ys < val 4294967296 rs + val 4294967296 ys ∧ val 4294967296 rs < (q + 1) * val 4294967296 ys ∧ Below w.heap.size w w' := by
  have tops := tops_of ha.words hb.words lr ly (by omega)
  have ca2 := ha.cell x rfl (m + 2) (by omega)
  have ca1 := ha.cell x rfl (m + 1) (by omega)
  have ca0 := ha.cell x rfl m (by omega)
  have cb1 := hb.cell y rfl (m + 1) (by omega)
  have cb0 := hb.cell y rfl m (by omega)
  obtain ⟨r2, e2, r20, r21⟩ := ha.words.get (by decide) (m + 2)
  obtain ⟨r1, e1, r10, r11⟩ := ha.words.get (by decide) (m + 1)
  obtain ⟨r0, e0, r00, r01⟩ := ha.words.get (by decide) m
  obtain ⟨d1, f1, d10, d11⟩ := hb.words.get (by decide) (m + 1)
  obtain ⟨d0, f0, d00, d01⟩ := hb.words.get (by decide) m
  rw [e2, add_one_off] at ca2
  rw [e1, add_one_off] at ca1
  rw [e0] at ca0
  rw [f1, add_one_off] at cb1
  rw [f0] at cb0
  rw [e2, e1, e0, f1, f0] at tops
  rw [f1] at hd
  have hhi := tops.high rfl r10 hR
  have hst := tops.start (by omega)
  replace tops : Hid _ := tops
  replace hst : Hid _ := hst
  replace hR : Hid _ := hR
  clear e2 e1 e0 f1 f0 lr ly
  have hor := bits_or64 r2 r1 r20 r21 r10 r11
  have hm0 : (0 : Int) ≤ (m : Int) := by omega
  go_enter Tryz.func135, Tryz.ntmps135
  go_wp2
  go_quiet (fail)
  have b2 : Below w.heap.size w (w.drewN nq) := below_drewN (Below.refl _ _) nq
  generalize w.drewN nq = w2 at *
  replace ca0 := keep_cell b2 ca0
  replace cb1 := keep_cell b2 cb1
  replace cb0 := keep_cell b2 cb0
  clear ca2 ca1 nq
  go_wp2
  go_quiet (fail)
  have b3 : Below w.heap.size w (w2.drewN nq) := below_drewN b2 nq
  have ca0' := keep_cell (below_drewN (Below.refl w2.heap.size w2) nq) ca0
  generalize w2.drewN nq = w3 at *
  clear ca0 cb1 cb0 nq b2
  have hd10 : d1 ≠ 0 := by omega
  go_wp2
  go_quiet (fail)
  have b4 : Below w.heap.size w (w3.drewN nq) := below_drewN b3 nq
  have ca0 := keep_cell (below_drewN (Below.refl w3.heap.size w3) nq) ca0'
  generalize w3.drewN nq = w4 at *
  clear ca0' nq b3
  have hT1 : (r2 * 4294967296 + r1) / d1 ≤ 4294967297 := by
    have := Int.ediv_lt_of_lt_mul (a := r2 * 4294967296 + r1) (b := 4294967298) (show 0 < d1 by omega) (by
      have e2 := Int.mul_le_mul_of_nonneg_right hhi (show (0 : Int) ≤ 4294967296 by decide)
      have e3 : (4294967298 : Int) * d1 = d1 * 4294967296 + 2 * d1 := by omega
      omega)
    omega
  have hT0 : 0 ≤ (r2 * 4294967296 + r1) / d1 := Int.ediv_nonneg (by omega) (by omega)
  have hT2 := Int.emod_nonneg (r2 * 4294967296 + r1) (b := d1) (by omega)
  have hT3 := Int.emod_lt_of_pos (r2 * 4294967296 + r1) (show 0 < d1 by omega)
  have hT4 : (r2 * 4294967296 + r1) / d1 * d1 + (r2 * 4294967296 + r1) % d1 = r2 * 4294967296 + r1 := by rw [Int.mul_comm]; exact Int.mul_ediv_add_emod _ _
  go_wp2
  go_loop [9, 10] (fun g l => ∃ gg ll : Int, g = .int .u64 gg ∧ l = .int .u64 ll ∧ 0 ≤ gg ∧ gg ≤ 4294967297 ∧ 0 ≤ ll ∧ ll < 4294967296 ∧ Hid (gg * d1 + ll = r2 * 4294967296 + r1) ∧ Hid (val 4294967296 rs < (gg + 1) * val 4294967296 ys)) (fun g _ => (intOf g).toNat)
  case atStart => exact ⟨_, _, rfl, rfl, hT0, hT1, hT2, by omega, hT4, hst⟩
  case round =>
    obtain ⟨gg, ll, rfl, rfl, hg0, hg9, hl0, hl9, HE, HG⟩ := hrel
    clear hT0 hT1 hT2 hT3 hT4
    replace HE := HE.out
    have hor2 := bits_or64 ll r0 hl0 hl9 r00 r01
    by_cases hgb : 4294967296 ≤ gg
    · have hq : (gg / 4294967296 != 0) = true := by rw [bne_iff_ne]; omega
      have HB : val 4294967296 rs < gg * val 4294967296 ys := by
        have e := hR.out
        have e2 := Int.mul_le_mul_of_nonneg_right hgb (val_nonneg (B := 4294967296) (by decide) hb.words)
        rw [Int.mul_comm] at e
        omega
      replace HB : Hid _ := HB
      · have hg1 : 1 ≤ gg := by omega
        have HN : Hid (Hid (val 4294967296 rs < (gg - 1 + 1) * val 4294967296 ys)) := by show _ < _; rw [Int.sub_add_cancel]; exact HB.out
        have hsub : (gg - 1) * d1 = gg * d1 - d1 := by rw [Int.sub_mul, Int.one_mul]
        by_cases hlb : 4294967296 ≤ ll + d1
        · have hgB : gg - 1 < 4294967296 := by
            by_cases hh : gg - 1 < 4294967296
            · exact hh
            · have e1 := Int.mul_le_mul_of_nonneg_right (show (4294967296 : Int) ≤ gg - 1 by omega) (show (0 : Int) ≤ d1 by omega)
              have e2 := Int.mul_le_mul_of_nonneg_right hhi (show (0 : Int) ≤ 4294967296 by decide)
              omega
          have HS : Hid (Hid ((gg - 1) * val 4294967296 ys < val 4294967296 rs + val 4294967296 ys)) := by
            refine tops.out.stop (g := gg - 1) (left := ll + d1) (by omega) hgB (by omega) ?_
            have e1 := Int.mul_le_mul_of_nonneg_right (show gg - 1 ≤ 4294967295 by omega) d00
            have e3 := Int.mul_le_mul_of_nonneg_right hlb (show (0 : Int) ≤ 4294967296 by decide)
            omega
          have hq2 : ((ll + d1) / 4294967296 != 0) = true := by rw [bne_iff_ne]; omega
          clear hsub HG
          replace HE : Hid _ := HE
          go_wp2
          go_ret
          exact ⟨gg - 1, rfl, by omega, hgB, HS, HN, b4⟩
        · have hq2 : ((ll + d1) / 4294967296 != 0) = false := by rw [bne_eq_false_iff_eq]; omega
          have HE' : (gg - 1) * d1 + (ll + d1) = r2 * 4294967296 + r1 := by omega
          clear hsub HG
          replace HE : Hid _ := HE
          replace HE' : Hid _ := HE'
          go_wp2
          go_round
          case rel => exact ⟨gg - 1, ll + d1, rfl, rfl, by omega, by omega, by omega, by omega, HE', HN⟩
          case measure => simp [intOf]; omega
    · have hq : (gg / 4294967296 != 0) = false := by rw [bne_eq_false_iff_eq]; omega
      have hp0 := Int.mul_nonneg hg0 d00
      have hp1 : gg * d0 ≤ 18446744065119617025 := by
        have e1 := Int.mul_le_mul_of_nonneg_right (show gg ≤ 4294967295 by omega) d00
        omega
      by_cases hc : ll * 4294967296 + r0 < gg * d0
      · have HB : val 4294967296 rs < gg * val 4294967296 ys := tops.out.down hg0 HE hc
        replace HB : Hid _ := HB
        have hgne : gg ≠ 0 := by
          intro e
          subst e
          simp at hc
          omega
        have hc' : gg * d0 > ll * 4294967296 + r0 := hc
        · have hg1 : 1 ≤ gg := by omega
          have HN : Hid (Hid (val 4294967296 rs < (gg - 1 + 1) * val 4294967296 ys)) := by show _ < _; rw [Int.sub_add_cancel]; exact HB.out
          have hsub : (gg - 1) * d1 = gg * d1 - d1 := by rw [Int.sub_mul, Int.one_mul]
          by_cases hlb : 4294967296 ≤ ll + d1
          · have hgB : gg - 1 < 4294967296 := by
              by_cases hh : gg - 1 < 4294967296
              · exact hh
              · have e1 := Int.mul_le_mul_of_nonneg_right (show (4294967296 : Int) ≤ gg - 1 by omega) (show (0 : Int) ≤ d1 by omega)
                have e2 := Int.mul_le_mul_of_nonneg_right hhi (show (0 : Int) ≤ 4294967296 by decide)
                omega
            have HS : Hid (Hid ((gg - 1) * val 4294967296 ys < val 4294967296 rs + val 4294967296 ys)) := by
              refine tops.out.stop (g := gg - 1) (left := ll + d1) (by omega) hgB (by omega) ?_
              have e1 := Int.mul_le_mul_of_nonneg_right (show gg - 1 ≤ 4294967295 by omega) d00
              have e3 := Int.mul_le_mul_of_nonneg_right hlb (show (0 : Int) ≤ 4294967296 by decide)
              omega
            have hq2 : ((ll + d1) / 4294967296 != 0) = true := by rw [bne_iff_ne]; omega
            clear hsub HG
            replace HE : Hid _ := HE
            go_wp2
            go_ret
            exact ⟨gg - 1, rfl, by omega, hgB, HS, HN, b4⟩
          · have hq2 : ((ll + d1) / 4294967296 != 0) = false := by rw [bne_eq_false_iff_eq]; omega
            have HE' : (gg - 1) * d1 + (ll + d1) = r2 * 4294967296 + r1 := by omega
            clear hsub HG
            replace HE : Hid _ := HE
            replace HE' : Hid _ := HE'
            go_wp2
            go_round
            case rel => exact ⟨gg - 1, ll + d1, rfl, rfl, by omega, by omega, by omega, by omega, HE', HN⟩
            case measure => simp [intOf]; omega
      · have hc' : ¬ gg * d0 > ll * 4294967296 + r0 := hc
        have HS : Hid (Hid (gg * val 4294967296 ys < val 4294967296 rs + val 4294967296 ys)) := tops.out.stop hg0 (by omega) HE (by omega)
        have hm : gg % 4294967296 = gg := by omega
        replace HE : Hid _ := HE
        go_wp2
        go_ret
        exact ⟨gg, rfl, hg0, by omega, HS, HG, b4⟩
end Go.Proofs.YthiiglhecajhbaaGreat
