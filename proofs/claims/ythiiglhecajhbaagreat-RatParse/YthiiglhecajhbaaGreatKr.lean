/- Contract of divideLong: long division. -/
import Derived.Test.YthiiglhecajhbaaGreatKqm
namespace Go.Proofs.YthiiglhecajhbaaGreat
open Go.RowKit
attribute [local go_sem ↓] Go.wp_at_zero Go.wp_at_succ
theorem lzAux_has : ∀ (f x : Nat), x < 2 ^ f → x < 2 ^ Lib.bitLenAux f x ∧ (Lib.bitLenAux f x = 0 ∨ 2 ^ (Lib.bitLenAux f x - 1) ≤ x)
  | 0, x, h => by simp at h; subst h; simp [Lib.bitLenAux]
  | f + 1, x, h => by
    by_cases hx : x = 0
    · subst hx; simp [Lib.bitLenAux]
    · have ih := lzAux_has f (x / 2) (by rw [Nat.pow_succ] at h; omega)
      simp only [Lib.bitLenAux, hx, if_false]
      generalize Lib.bitLenAux f (x / 2) = L at *
      refine ⟨?_, .inr ?_⟩
      · rw [Nat.pow_add]; omega
      · rcases ih.2 with e | e
        · subst e; simp; omega
        · by_cases hL : L = 0
          · subst hL; simp; omega
          · rw [show 1 + L - 1 = (L - 1) + 1 from by omega, Nat.pow_succ]; omega
/-- How far the highest word is from the top: c places. -/
theorem lz_has {t : Int} (h0 : 0 < t) (h1 : t < 4294967296) : ∃ c : Nat, (32 : Int) - (Lib.bitLen t.toNat : Int) = c ∧ c < 32 ∧ 2147483648 ≤ t * 2 ^ c ∧ (t + 1) * 2 ^ c ≤ 4294967296 := by
  have h := lzAux_has 64 t.toNat (by omega)
  have hle := Lib.bitLen_le t.toNat 32 (by decide) (by omega)
  change t.toNat < 2 ^ Lib.bitLen t.toNat ∧ (Lib.bitLen t.toNat = 0 ∨ 2 ^ (Lib.bitLen t.toNat - 1) ≤ t.toNat) at h
  generalize Lib.bitLen t.toNat = L at *
  have hL : L ≠ 0 := by
    intro e
    subst e
    simp at h
    omega
  have h2 : 2 ^ (L - 1) ≤ t.toNat := by rcases h.2 with e | e; exact absurd e hL; exact e
  have p1 : ((2 : Int) ^ (L - 1)) * 2 ^ (32 - L) = 2147483648 := by rw [← Int.pow_add, show L - 1 + (32 - L) = 31 from by omega]; rfl
  have p2 : ((2 : Int) ^ L) * 2 ^ (32 - L) = 4294967296 := by rw [← Int.pow_add, show L + (32 - L) = 32 from by omega]; rfl
  have c1 : ((2 ^ (L - 1) : Nat) : Int) = 2 ^ (L - 1) := by simp
  have c2 : ((2 ^ L : Nat) : Int) = 2 ^ L := by simp
  have hp := pow_pos' (B := 2) (by decide) (32 - L)
  refine ⟨32 - L, by omega, by omega, ?_, ?_⟩
  · rw [← p1]; exact mul_mono_r (by omega) (Int.le_of_lt hp)
  · rw [← p2]; exact mul_mono_r (by omega) (Int.le_of_lt hp)
theorem top_ne {zs : List Int} {m : Nat} (hn : nrm zs) (hl : zs.length = m + 1) : zs[m]?.getD 0 ≠ 0 := by
  have e := congrArg List.length (trimmed_of_nrm zs hn)
  rw [trimmed_len, hl] at e
  intro h0
  simp only [trimN, h0, if_true] at e
  have := trimN_le zs m
  omega
/-- The divisor moved so that its highest bit is set. -/
theorem long_norm {ys ds : List Int} {m c : Nat} (hy : Words 4294967296 ys) (hd : Words 4294967296 ds) (ly : ys.length = m + 2) (ld : ds.length = m + 2) (h1 : 2147483648 ≤ ys[m + 1]?.getD 0 * 2 ^ c) (hv : val 4294967296 ds = val 4294967296 ys * 2 ^ c) : 2147483648 ≤ ds[m + 1]?.getD 0 := by
  have e1 := val_take_succ 4294967296 ys (m + 1)
  have e2 := val_take_succ 4294967296 ds (m + 1)
  rw [take_all (by omega)] at e1 e2
  have h0 := val_nonneg (B := 4294967296) (by decide) (hy.take (m + 1))
  have h2 := val_lt (B := 4294967296) (by decide) (hd.take (m + 1))
  rw [List.length_take, Nat.min_eq_left (by omega)] at h2
  have hp := pow_pos' (B := 4294967296) (by decide) (m + 1)
  have hc := pow_pos' (B := 2) (by decide) c
  have h3 := Int.mul_nonneg h0 (Int.le_of_lt hc)
  have h4 := mul_mono_r h1 (Int.le_of_lt hp)
  have h5 : ys[m + 1]?.getD 0 * 4294967296 ^ (m + 1) * 2 ^ c = ys[m + 1]?.getD 0 * 2 ^ c * 4294967296 ^ (m + 1) := by rw [Int.mul_assoc, Int.mul_comm (4294967296 ^ (m + 1)), ← Int.mul_assoc]
  rw [e1, Int.add_mul, h5] at hv
  by_cases hh : 2147483648 ≤ ds[m + 1]?.getD 0
  · exact hh
  · have h6 := mul_mono_r (show ds[m + 1]?.getD 0 + 1 ≤ 2147483648 by omega) (Int.le_of_lt hp)
    rw [Int.add_mul, Int.one_mul] at h6
    omega
theorem long_fits {ys : List Int} {m c : Nat} (hy : Words 4294967296 ys) (ly : ys.length = m + 2) (h2 : (ys[m + 1]?.getD 0 + 1) * 2 ^ c ≤ 4294967296) : val 4294967296 ys * 2 ^ c < 4294967296 ^ (m + 2) := by
  have e1 := val_take_succ 4294967296 ys (m + 1)
  rw [take_all (by omega)] at e1
  have h0 := val_lt (B := 4294967296) (by decide) (hy.take (m + 1))
  rw [List.length_take, Nat.min_eq_left (by omega)] at h0
  have hp := pow_pos' (B := 4294967296) (by decide) (m + 1)
  have hc := pow_pos' (B := 2) (by decide) c
  have h3 : val 4294967296 ys + 1 ≤ (ys[m + 1]?.getD 0 + 1) * 4294967296 ^ (m + 1) := by rw [Int.add_mul]; omega
  have h4 := mul_mono_r h3 (Int.le_of_lt hc)
  have h5 : (ys[m + 1]?.getD 0 + 1) * 4294967296 ^ (m + 1) * 2 ^ c = (ys[m + 1]?.getD 0 + 1) * 2 ^ c * 4294967296 ^ (m + 1) := by rw [Int.mul_assoc, Int.mul_comm (4294967296 ^ (m + 1)), ← Int.mul_assoc]
  have h6 := mul_mono_r h2 (Int.le_of_lt hp)
  have h7 : (4294967296 : Int) ^ (m + 2) = 4294967296 * 4294967296 ^ (m + 1) := by rw [Int.pow_succ, Int.mul_comm]
  rw [h5, Int.add_mul, Int.one_mul] at h4
  omega
theorem long_room {xs : List Int} {c : Nat} (hx : Words 4294967296 xs) (hc : c < 32) : val 4294967296 xs * 2 ^ c < 4294967296 ^ (xs.length + 1) := by
  have h0 := val_lt (B := 4294967296) (by decide) hx
  have hv := val_nonneg (B := 4294967296) (by decide) hx
  have hc1 := pow_pos' (B := 2) (by decide) c
  have hc2 : (2 : Int) ^ c ≤ 2147483648 := pow_mono (B := 2) (by decide) (m := c) (n := 31) (by omega)
  have h1 := mul_mono_l hc2 hv
  rw [Int.pow_succ]
  omega
/-- The highest words of what is divided are below the divisor. -/
theorem long_start {us ds : List Int} {V : Int} {m c la : Nat} (hu : Words 4294967296 us) (hd : Words 4294967296 ds) (ld : ds.length = m + 2) (lu : us.length = la + 1) (hla : m + 2 ≤ la) (hc : c < 32) (hV0 : 0 ≤ V) (hV1 : V < 4294967296 ^ la) (hv : val 4294967296 us = V * 2 ^ c) (ht : 2147483648 ≤ ds[m + 1]?.getD 0) : val 4294967296 (us.drop (la - (m + 2) + 1)) < val 4294967296 ds := by
  have e := val_split 4294967296 us (la - (m + 2) + 1) (by omega)
  have h0 := val_nonneg (B := 4294967296) (by decide) (hu.take (la - (m + 2) + 1))
  have e2 := val_take_succ 4294967296 ds (m + 1)
  rw [take_all (by omega)] at e2
  have h1 := val_nonneg (B := 4294967296) (by decide) (hd.take (m + 1))
  have hp := pow_pos' (B := 4294967296) (by decide) (m + 1)
  have hq := pow_pos' (B := 4294967296) (by decide) (la - (m + 2) + 1)
  have h2 := mul_mono_r ht (Int.le_of_lt hp)
  have hc1 := pow_pos' (B := 2) (by decide) c
  have hc2 : (2 : Int) ^ c ≤ 2147483648 := pow_mono (B := 2) (by decide) (m := c) (n := 31) (by omega)
  have h3 : V * 2 ^ c < 4294967296 ^ la * 2147483648 := by
    have a1 := mul_mono_l hc2 hV0
    have a2 := Int.mul_lt_mul_of_pos_right hV1 (show (0 : Int) < 2147483648 by decide)
    omega
  have h4 : (4294967296 : Int) ^ la = 4294967296 ^ (la - (m + 2) + 1) * 4294967296 ^ (m + 1) := by rw [← Int.pow_add]; congr 1; omega
  by_cases hh : val 4294967296 (us.drop (la - (m + 2) + 1)) < val 4294967296 ds
  · exact hh
  · exfalso
    have h5 := mul_mono_l (show 2147483648 * 4294967296 ^ (m + 1) ≤ val 4294967296 (us.drop (la - (m + 2) + 1)) by omega) (Int.le_of_lt hq)
    rw [h4, Int.mul_assoc, Int.mul_comm (4294967296 ^ (m + 1)) 2147483648] at h3
    omega
theorem zeros_start (us : List Int) (D : Int) (n : Nat) : val 4294967296 (us.drop (n + 1)) = D * val 4294967296 ((zeros (n + 1)).drop (n + 1)) + val 4294967296 (us.drop (n + 1)) := by
  have e : (zeros (n + 1)).drop (n + 1) = [] := List.drop_eq_nil_of_le (by rw [zeros_len]; omega)
  rw [e]
  simp [val]
theorem long_step {B D : Int} {us ss ss' qs : List Int} {k : Nat} {q : Int} (hk : k < qs.length) (hu : ss[k]?.getD 0 = us[k]?.getD 0) (h : val B (us.drop (k + 1)) = D * val B (qs.drop (k + 1)) + val B (ss.drop (k + 1))) (hq : val B (ss.drop k) = D * q + val B (ss'.drop k)) :
    val B (us.drop k) = D * val B ((qs.set k q).drop k) + val B (ss'.drop k) := by
  rw [val_drop B us k, ← hu, val_set_drop _ _ _ _ hk, h, Int.mul_add D, ← Int.mul_assoc D B, Int.mul_comm D B, Int.mul_assoc B D, Int.mul_add B]
  rw [val_drop B ss k] at hq
  omega
/-- Back from the moved numbers. -/
theorem long_end {X Y Q S f : Int} (hf : 0 < f) (h : X * f = Y * f * Q + S) (hS : S < Y * f) (_hS0 : 0 ≤ S) : X = Y * Q + S / f ∧ S / f < Y := by
  have e : S = (X - Y * Q) * f := by
    rw [Int.sub_mul]
    have : Y * f * Q = Y * Q * f := by rw [Int.mul_assoc, Int.mul_comm f Q, ← Int.mul_assoc]
    omega
  have e2 : S / f = X - Y * Q := by rw [e, Int.mul_ediv_cancel _ (by omega)]
  refine ⟨by omega, Int.ediv_lt_of_lt_mul hf hS⟩
set_option maxHeartbeats 4000000 in
set_option maxRecDepth 20000 in
theorem long_said {xs ys : List Int} (nx : nrm xs) (ny : nrm ys) (wx : Words 4294967296 xs) (wy : Words 4294967296 ys) (hly : 2 ≤ ys.length) (hlx : xs.length ≤ 900000) (hv : val 4294967296 ys ≤ val 4294967296 xs) : LongSaid xs ys := by
  intro x y ca cb w ha hb
  have hll := len_le (by decide) wx wy ny hv
  obtain ⟨m, hm⟩ : ∃ m, ys.length = m + 2 := ⟨ys.length - 2, by omega⟩
  obtain ⟨ya, rfl⟩ := hb.some_of (i := 0) (by omega)
  have htop := top_ne (m := m + 1) ny hm
  obtain ⟨t, ht, ht0, ht1⟩ := wy.get (by decide) (m + 1)
  rw [ht] at htop
  obtain ⟨c, hc, hc32, hca, hcb⟩ := lz_has (t := t) (by omega) ht1
  have hcell := hb.cell ya rfl (m + 1) (by omega)
  rw [ht, add_one_off] at hcell
  have kz := lz32 t w (by omega) (by omega)
  rw [hc] at kz
  rw [← ht] at hca hcb
  have k1 := shiftLeft_any (some ya) cb ys c (m + 2) w hb (by omega) hc32 (.inl hm.symm) (long_fits wy hm hcb)
  rw [hm, show ((m + 2 : Nat) : Int) = (m : Int) + 2 from by omega] at k1
  rw [hm]
  replace k1 : Hid _ := k1
  replace kz : Hid _ := kz
  replace hca : Hid _ := hca
  replace hcb : Hid _ := hcb
  replace hv : Hid _ := hv
  replace ht : Hid _ := ht
  replace hc : Hid _ := hc
  replace nx : Hid _ := nx
  rw [hm] at hll hly
  replace hm : Hid _ := hm
  have hxr : Hid _ := long_room (c := c) wx hc32
  go_enter Tryz.func106, Tryz.ntmps106
  go_wp2_with (first | (go_at_call 121; refine Calls.mono kz.out ?_; rintro e w1 ⟨rfl, hw1⟩; rw [hw1]; clear hw1 w1))
  refine Calls.mono k1.out ?_
  rintro e w1 ⟨ds, rfl, hdb, hdl, hdw, hdv, hb1⟩
  rw [hdl] at hdb ⊢
  have hdn := long_norm wy hdw hm.out hdl hca.out hdv
  have hdr : Row w1 .u32 4294967296 (some ⟨w.heap.size, 0, none⟩) (m + 2) ds := hdb.row hdw
  have k2 := shiftLeft_any x ca xs c (xs.length + 1) w1 (ha.next hb1) (by omega) hc32 (.inr rfl) hxr.out
  rw [show ((xs.length + 1 : Nat) : Int) = (xs.length : Int) + 1 from by omega] at k2
  replace k2 : Hid _ := k2
  replace hdv : Hid _ := hdv
  replace hdl : Hid _ := hdl
  replace hdn : Hid _ := hdn
  clear k1 kz hcell
  go_wp2_with fail
  refine Calls.mono k2.out ?_
  rintro e w2 ⟨us, rfl, hub, hul, huw, huv, hb2⟩
  rw [hul] at hub ⊢
  clear k2
  have hst := long_start huw hdw hdl.out hul hll hc32 (val_nonneg (by decide) wx) (val_lt (by decide) wx) huv hdn.out
  have hmk := mk22 ((xs.length : Int) - ((m : Int) + 2) + 1) (by omega) (by omega) w2
  rw [show ((xs.length : Int) - ((m : Int) + 2) + 1).toNat = xs.length - (m + 2) + 1 from by omega] at hmk
  replace huv : Hid _ := huv
  replace hul : Hid _ := hul
  replace hst : Hid _ := hst
  have hqB := Blk.new w2 .u32 74 (zeros (xs.length - (m + 2) + 1)) (by rw [zeros_len]; unfold maxLen; omega)
  rw [zeros_len] at hqB
  have hal : Below w2.heap.size w2 (w2.alloc (.cells (cellsOf .u32 (zeros (xs.length - (m + 2) + 1))) 74)) := (Below.refl _ _).alloc (Nat.le_refl _) _
  have hub' := hub.next hal
  have hlt2 := hub.lt
  have hb12 : Below w1.heap.size w1 (w2.alloc (.cells (cellsOf .u32 (zeros (xs.length - (m + 2) + 1))) 74)) := hb2.trans (hal.mono hb2.size)
  obtain ⟨lq, hlq⟩ : ∃ lq, xs.length - (m + 2) = lq := ⟨_, rfl⟩
  have hlq1 : xs.length ≤ lq + (m + 2) := by omega
  have hlq2 : lq + (m + 2) ≤ xs.length := by omega
  rw [hlq] at hmk hqB hub' hb12 hst
  clear hlq hal hub
  replace hb1 : Hid _ := hb1
  go_wp2
  generalize w2.alloc (.cells (cellsOf .u32 (zeros (lq + 1))) 74) = w3 at *
  go_loopw [11] (fun i wr => ∃ (k : Nat) (ss qs : List Int), k ≤ lq + 1 ∧ i = .int .i64 ((k : Int) - 1) ∧ Blk wr w1.heap.size .u32 74 (xs.length + 1) ss ∧ Hid (ss.length = xs.length + 1) ∧ Words 4294967296 ss ∧ Blk wr w2.heap.size .u32 74 (lq + 1) qs ∧ Hid (qs.length = lq + 1) ∧ Words 4294967296 qs ∧ Hid (∀ j, j < k → ss[j]?.getD 0 = us[j]?.getD 0) ∧ Hid (val 4294967296 (us.drop k) = val 4294967296 ds * val 4294967296 (qs.drop k) + val 4294967296 (ss.drop k)) ∧ Hid (val 4294967296 (ss.drop k) < val 4294967296 ds) ∧ Below w1.heap.size w1 wr) (fun i _ => (intOf i + 1).toNat)
  case atStart => exact ⟨lq + 1, us, zeros (lq + 1), Nat.le_refl _, by congr 1; omega, hub', hul, huw, hqB, zeros_len _, zeros_words (by decide) _, fun _ _ => rfl, zeros_start us _ lq, hst, hb12⟩
  case round =>
    obtain ⟨k, ss, qs, hk, rfl, hblk, hsl, hsw, hqb, hql, hqw, HE, HV, HL, hbel⟩ := hrel
    cases k with
    | zero =>
      have hsv := HL.out
      simp only [List.drop_zero] at hsv
      have hdlt := val_lt (B := 4294967296) (by decide) hdw
      rw [hdl.out] at hdlt
      have hss0 := val_nonneg (B := 4294967296) (by decide) hsw
      have htk := val_take_small (n := m + 2) (by decide) hsw (by omega)
      have hRow : Row wr .u32 4294967296 (some ⟨w1.heap.size, 0, none⟩) (xs.length + 1) (ss.take (m + 2)) := (hblk.take (m + 2)).row (hsw.take _)
      have hlt3 : (ss.take (m + 2)).length = m + 2 := by rw [List.length_take, hsl.out]; omega
      have ks := shiftRight_any (some ⟨w1.heap.size, 0, none⟩) (xs.length + 1) (ss.take (m + 2)) c wr hRow (by omega) hc32
      rw [hlt3, htk] at ks
      replace ks : Hid _ := ks
      have hle := long_end (X := val 4294967296 xs) (Y := val 4294967296 ys) (Q := val 4294967296 qs) (S := val 4294967296 ss) (pow_pos' (B := 2) (by decide) c) (by
        have e := HV.out
        simp only [List.drop_zero] at e
        rw [huv.out, hdv.out] at e
        exact e) (by rw [← hdv.out]; exact hsv) hss0
      replace hle : Hid _ := hle
      clear hRow hsv hdlt hss0 htk hlt3
      go_wp2_with fail
      refine Calls.mono ks.out ?_
      rintro e w4 ⟨rs, rfl, hrb, hrl, hrw, hrv, hb4⟩
      clear ks
      rw [hrl] at hrb
      replace hrl : Hid _ := hrl
      replace hrv : Hid _ := hrv
      have s1 := hb1.out.size
      have s2 := hb2.size
      have s3 := hbel.size
      go_wp2
      refine bodyPost_ret (v := .tuple #[.slice (some ⟨w2.heap.size, 0, none⟩) (lq + 1) (lq + 1), .slice (some ⟨wr.heap.size, 0, none⟩) (m + 2) (m + 2)]) (by simp [results, Tryz.results106, go_sem, hrl.out]) rfl ⟨⟨_, _, qs, _, _, rs, by rw [hql.out, hrl.out], (hqb.next hb4).own hqw (by omega), hrb.own hrw (by omega), ?_, ?_, by rw [hql.out]; omega, by rw [hrl.out]; omega⟩, bthen (hb1.out.trans (hbel.mono s1)) hb4⟩
      · rw [hrv.out]; exact hle.out.1
      · rw [hrv.out]; exact hle.out.2
    | succ k =>
      have hks : k < ss.length := by rw [hsl.out]; omega
      have kd := divideStep_any w1 w1.heap.size k m (xs.length + 1 - k) (m + 2) (xs.length + 1) ss ds ⟨w.heap.size, 0, none⟩ wr hdr hbel (Nat.le_refl _) hblk hsw hdl.out (by rw [hsl.out]; omega) (by rw [hsl.out]; omega) (by omega) (by unfold maxLen; omega) hdn.out HL.out
      replace kd : Hid _ := kd
      go_wp2_with fail
      rw [show k + (m + 2) + 1 - k = m + 2 + 1 from by omega]
      refine Calls.mono kd.out ?_
      rintro e w4 ⟨q, ss', rfl, hq0, hq1, hb', hl', hw', hsame, hval, hlt, hgr⟩
      clear kd
      have hqb' := hqb.grown hgr (by omega)
      have hcs := hqb'.cell k (by rw [hql.out]; omega)
      have hfr := hqb'.frozen k
      generalize qs[k]?.getD 0 = old at hcs
      have HS : Hid (Hid (val 4294967296 (us.drop k) = val 4294967296 ds * val 4294967296 ((qs.set k q).drop k) + val 4294967296 (ss'.drop k))) := long_step (by rw [hql.out]; omega) (HE.out k (by omega)) HV.out hval
      have HL2 : Hid (Hid (val 4294967296 (ss'.drop k) < val 4294967296 ds)) := hlt
      have HE2 : Hid (Hid (∀ j, j < k → ss'[j]?.getD 0 = us[j]?.getD 0)) := fun j hj => (hsame j hj).trans (HE.out j (by omega))
      have hl2 : Hid (Hid (ss'.length = xs.length + 1)) := hl'.trans hsl.out
      have hbel4 := grown_below' hbel hgr (Nat.le_refl _)
      clear hval hlt hsame hl' hqb hblk HV HL HE hgr
      go_wp2
      go_roundw
      case rel => exact ⟨k, ss', _, by omega, rfl, hb'.other _ _ (by simp; omega), hl2, hw', hqb'.set k _, by show _ = _; rw [List.length_set]; exact hql.out, hqw.set k (by omega), HE2, HS, HL2, hbel4.setCell (by simp; omega) _⟩
      case measure => simp [intOf]
end Go.Proofs.YthiiglhecajhbaaGreat
