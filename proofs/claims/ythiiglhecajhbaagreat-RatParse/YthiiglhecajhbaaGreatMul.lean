/- Contracts of addScaled, multiply and number. -/
import Derived.Test.YthiiglhecajhbaaGreatMag2m
namespace Go.Proofs.YthiiglhecajhbaaGreat
open Go.RowKit
theorem mul_word {p s : Int} (hp0 : 0 ≤ p) (hp1 : p < 4294967296) (hs0 : 0 ≤ s) (hs1 : s < 4294967296) : 0 ≤ p * s ∧ p * s ≤ 18446744065119617025 := by
  refine ⟨Int.mul_nonneg hp0 hs0, ?_⟩
  have h1 : p * s ≤ 4294967295 * s := Int.mul_le_mul_of_nonneg_right (by omega) hs0
  omega
set_option maxHeartbeats 400000 in
theorem addScaled_any (w0 : World) (g o capT capB : Nat) (cap : Nat) (zs ys : List Int) (y : Option Addr) (s : Int) (w : World) (hb : Row w0 .u32 4294967296 y capB ys) (hw : Below w0.heap.size w0 w) (hg : w0.heap.size ≤ g)
    (hz : Blk w g .u32 74 cap zs) (hzw : Words 4294967296 zs) (ho : o + ys.length ≤ zs.length) (hl : zs.length ≤ 4000000) (hs0 : 0 ≤ s) (hs1 : s < 4294967296) :
    Calls Tryz.prog 105 #[.slice (some ⟨g, o, none⟩) ys.length capT, .slice y ys.length capB, .int .u32 s] w fun e w' => ∃ c zs', e = .returned (.int .u32 c) ∧ 0 ≤ c ∧ c < 4294967296 ∧ Blk w' g .u32 74 cap zs' ∧ zs'.length = zs.length ∧ Words 4294967296 zs' ∧ val 4294967296 (zs'.take (o + ys.length)) + c * 4294967296 ^ (o + ys.length) = val 4294967296 (zs.take (o + ys.length)) + s * val 4294967296 ys * 4294967296 ^ o ∧ Below w0.heap.size w0 w' := by
  go_enter Tryz.func105, Tryz.ntmps105
  go_wp2
  go_loopw [7, 8, 9, 10, 13] (fun c u8 u9 u10 i wr => ∃ (k : Nat) (cc : Int) (ss : List Int), k ≤ ys.length ∧ i = .int .i64 k ∧ c = .int .u64 cc ∧ 0 ≤ cc ∧ cc < 4294967296 ∧ Blk wr g .u32 74 cap ss ∧ ss.length = zs.length ∧ Words 4294967296 ss ∧ Hid (∀ i, o + k ≤ i → ss[i]?.getD 0 = zs[i]?.getD 0) ∧ Hid (val 4294967296 (ss.take (o + k)) + cc * 4294967296 ^ (o + k) = val 4294967296 (zs.take (o + k)) + s * val 4294967296 (ys.take k) * 4294967296 ^ o) ∧ Below w0.heap.size w0 wr) (fun _ _ _ _ i _ => ys.length - (intOf i).toNat)
  case atStart => exact ⟨0, 0, zs, Nat.zero_le _, rfl, rfl, by omega, by omega, hz, rfl, hzw, fun _ _ => rfl, by simp [val, Hid], hw⟩
  case round =>
    obtain ⟨k, cc, ss, hk, rfl, rfl, hc0, hc1, hblk, hsl, hsw, HE, HV, hbel⟩ := hrel
    by_cases hlt : k < ys.length
    · obtain ⟨y, rfl⟩ := hb.some_of hlt
      obtain ⟨p, hp, hp0, hp1⟩ := hb.words.get (by decide) k
      obtain ⟨q, hq, hq0, hq1⟩ := hsw.get (by decide) (o + k)
      have hca := (hb.next hbel).cell y rfl k hlt
      have hcs := hblk.cell (o + k) (by omega)
      have hfr := hblk.frozen (o + k)
      have hzq : zs[o + k]?.getD 0 = q := by rw [← HE.out (o + k) (Nat.le_refl _)]; exact hq
      have HS : Hid (Hid (val 4294967296 ((ss.set (o + k) ((p * s + q + cc) % 4294967296)).take (o + (k + 1))) + ((p * s + q + cc) / 4294967296) * 4294967296 ^ (o + (k + 1)) = val 4294967296 (zs.take (o + (k + 1))) + s * val 4294967296 (ys.take (k + 1)) * 4294967296 ^ o)) := scale_step (by omega) hp hzq HV.out
      have hm := mul_word hp0 hp1 hs0 hs1
      rw [hp] at hca
      rw [hq] at hcs
      clear hp hq HV hb hzq
      go_wp2
      go_roundw
      case rel => exact ⟨k + 1, _, _, by omega, by go_num, rfl, by omega, by omega, hblk.set (o + k) _, by simpa using hsl, hsw.set (o + k) (by omega), fun i hi => by rw [List.getElem?_set_ne (by omega)]; exact HE.out i (by omega), HS, hbel.setCell hg _⟩
      case measure => simp [intOf]; omega
    · obtain rfl : k = ys.length := by omega
      go_wp2
      go_ret
      have HV' := HV.out
      rw [take_all (Nat.le_refl _)] at HV'
      exact ⟨cc, ss, rfl, hc0, hc1, hblk, hsl, hsw, HV', hbel⟩
set_option maxHeartbeats 400000 in
theorem multiply_any (x y : Option Addr) (ca cb : Nat) (xs ys : List Int) (w : World) (ha : Row w .u32 4294967296 x ca xs) (hb : Row w .u32 4294967296 y cb ys) (hl : xs.length ≤ 1000000) (hlb : ys.length ≤ 1000000) :
    Calls Tryz.prog 78 #[.slice x xs.length ca, .slice y ys.length cb] w fun e w' => ∃ ss, e = .returned (.slice (some ⟨w.heap.size, 0, none⟩) ss.length ss.length) ∧ Blk w' w.heap.size .u32 74 ss.length ss ∧ ss.length = xs.length + ys.length ∧ Words 4294967296 ss ∧ val 4294967296 ss = val 4294967296 xs * val 4294967296 ys ∧ Below w.heap.size w w' := by
  have hmk := mk22 ((xs.length : Int) + (ys.length : Int)) (by omega) (by omega) w
  rw [show ((xs.length : Int) + (ys.length : Int)).toNat = xs.length + ys.length from by omega] at hmk
  go_enter Tryz.func78, Tryz.ntmps78
  go_wp2
  go_loopw [6, 7, 16] (fun u6 u7 i wr => ∃ (k : Nat) (ss : List Int), k ≤ xs.length ∧ i = .int .i64 k ∧ Blk wr w.heap.size .u32 74 (xs.length + ys.length) ss ∧ ss.length = xs.length + ys.length ∧ Words 4294967296 ss ∧ Hid (val 4294967296 (ss.take (k + ys.length)) = val 4294967296 (xs.take k) * val 4294967296 ys) ∧ Below w.heap.size w wr) (fun _ _ i _ => xs.length - (intOf i).toNat)
  case atStart => exact ⟨0, zeros (xs.length + ys.length), Nat.zero_le _, rfl, by have := Blk.new w .u32 74 (zeros (xs.length + ys.length)) (by rw [zeros_len]; unfold maxLen; omega); rwa [zeros_len] at this, zeros_len _, zeros_words (by decide) _, by show val _ (List.take _ (List.replicate _ _)) = _; rw [List.take_replicate, val_zeros]; simp [val], (Below.refl _ _).alloc (Nat.le_refl _) _⟩
  case round =>
    obtain ⟨k, ss, hk, rfl, hblk, hsl, hsw, HV, hbel⟩ := hrel
    by_cases hlt : k < xs.length
    · obtain ⟨x, rfl⟩ := ha.some_of hlt
      obtain ⟨p, hp, hp0, hp1⟩ := ha.words.get (by decide) k
      have hca := (ha.next hbel).cell x rfl k hlt
      rw [hp] at hca
      have HP : Hid (xs[k]?.getD 0 = p) := hp
      clear hp
      go_wp2_with fail
      refine (addScaled_any w w.heap.size k _ cb _ ss ys y p wr hb hbel (Nat.le_refl _) hblk hsw (by omega) (by omega) hp0 hp1).mono ?_
      rintro e w1 ⟨c, ss1, rfl, hc0, hc1, hblk1, hsl1, hsw1, hv1, hbel1⟩
      have HS : Hid (Hid (val 4294967296 ((ss1.set (k + ys.length) c).take (k + 1 + ys.length)) = val 4294967296 (xs.take (k + 1)) * val 4294967296 ys)) := mul_step (by omega) HP.out HV.out hv1
      have hcs := hblk1.cell (k + ys.length) (by omega)
      have hfr := hblk1.frozen (k + ys.length)
      generalize ss1[k + ys.length]?.getD 0 = old at hcs
      clear hv1 HV hblk hsw hbel hca
      go_wp2
      go_roundw
      case rel => exact ⟨k + 1, _, by omega, by go_num, hblk1.set (k + ys.length) _, by simp; omega, hsw1.set (k + ys.length) (by omega), HS, hbel1.setCell (Nat.le_refl _) _⟩
      case measure => simp [intOf]; omega
    · obtain rfl : k = xs.length := by omega
      go_wp2
      go_ret
      have HV' := HV.out
      rw [take_all (Nat.le_refl _), take_all (by omega)] at HV'
      exact ⟨ss, by rw [hsl]; rfl, by rw [hsl]; exact hblk, hsl, hsw, HV', hbel⟩
theorem Blk.trim {w : World} {g : Nat} {k : IntKind} {T : TypeId} {cap : Nat} {zs : List Int} (h : Blk w g k T cap zs) : Blk w g k T cap (trimmed zs) := h.take _
theorem Row.trim {w : World} {k : IntKind} {B : Int} {a : Option Addr} {cap : Nat} {zs : List Int} (h : Row w k B a cap zs) : Row w k B a cap (trimmed zs) := h.take _ (trimN_le _ _)
theorem Own.trim {w : World} {base : Nat} {k : IntKind} {T : TypeId} {B : Int} {a : Option Addr} {cap : Nat} {zs : List Int} (h : Own w base k T B a cap zs) : Own w base k T B a cap (trimmed zs) := h.take _
/-- A value of type api.Big that reads as the number z, in normal form, in at most n words, in memory of the call's own. -/
def Out (w : World) (base : Nat) (v : Value) (z : Int) (n : Nat) : Prop :=
  ∃ (neg : Bool) (a : Option Addr) (cap : Nat) (ds : List Int), v = .agg #[.bool neg, .slice a ds.length cap] ∧ Own w base .u32 74 4294967296 a cap ds ∧ Norm neg ds ∧ num 4294967296 neg ds = z ∧ ds.length ≤ n
theorem Out.next {w w' : World} {base : Nat} {v : Value} {z : Int} {n : Nat} (h : Out w base v z n) (hb : Below w.heap.size w w') : Out w' base v z n := by
  obtain ⟨neg, a, cap, ds, hv, hr, r⟩ := h
  exact ⟨neg, a, cap, ds, hv, hr.next hb, r⟩
set_option maxHeartbeats 400000 in
theorem number_any (neg : Bool) (x : Option Addr) (cap : Nat) (xs : List Int) (base : Nat) (w : World) (ha : Own w base .u32 74 4294967296 x cap xs) (_hl : xs.length ≤ 4000000) :
    Calls Tryz.prog 72 #[.bool neg, .slice x xs.length cap] w fun e w' => ∃ v, e = .returned v ∧ Out w' base v (num 4294967296 neg xs) xs.length ∧ Below w.heap.size w w' := by
  have hbel : Below w.heap.size w (w.alloc (.cells #[.bool false, .slice none 0 0] 24)) := (Below.refl _ _).alloc (Nat.le_refl _) _
  have hlen := trimmed_le xs
  by_cases h0 : trimmed xs = []
  · have h1 : ((trimmed xs).length : Int) == 0 := by simp [h0]
    have HE : Hid (trimmed xs = []) := h0
    have hz : (trimmed xs).length = 0 := by simp [h0]
    go_enter Tryz.func72, Tryz.ntmps72
    go_wp2_with (go_at_call 74; refine (trim_any _ _ _ _ (ha.row.next hbel)).mono ?_; rintro e w' ⟨rfl, rfl⟩)
    refine bodyPost_ret (v := .agg #[.bool false, .slice none 0 0]) (by simp [results, Tryz.results72, go_sem]) rfl ⟨_, rfl, ?_, hbel⟩
    have hv := trimmed_val 4294967296 xs
    rw [HE.out] at hv
    exact ⟨false, none, 0, [], rfl, Own.empty _ _ _ _ _, ⟨trivial, fun h => by cases h⟩, by simp only [num, ← hv]; simp [val], Nat.zero_le _⟩
  · have hz : 0 < (trimmed xs).length := List.length_pos_iff.2 h0
    have h1 : (((trimmed xs).length : Int) == 0) = false := by simp; omega
    have HE : Hid (trimmed xs ≠ []) := h0
    clear h0
    have hO : Out (w.alloc (.cells #[.bool neg, .slice x (trimmed xs).length cap] 24)) base (.agg #[.bool neg, .slice x (trimmed xs).length cap]) (num 4294967296 neg xs) xs.length :=
      ⟨neg, x, cap, trimmed xs, rfl, ha.trim.next ((Below.refl _ _).alloc (Nat.le_refl _) _), ⟨trimmed_nrm xs, fun _ => HE.out⟩, by simp only [num, trimmed_val], trimmed_le xs⟩
    go_enter Tryz.func72, Tryz.ntmps72
    go_wp2_with (go_at_call 74; refine (trim_any _ _ _ _ (ha.row.next hbel)).mono ?_; rintro e w' ⟨rfl, rfl⟩)
    exact bodyPost_ret (v := .agg #[.bool neg, .slice x (trimmed xs).length cap]) (by simp [results, Tryz.results72, go_sem]) rfl ⟨_, rfl, hO, (Below.refl _ _).alloc (Nat.le_refl _) _⟩
end Go.Proofs.YthiiglhecajhbaaGreat
