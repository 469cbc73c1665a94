/- Contracts of divideByWord, divide by one word, Quo by one word. -/
import Derived.Test.YthiiglhecajhbaaGreatOps3m
namespace Go.Proofs.YthiiglhecajhbaaGreat
open Go.RowKit
attribute [local go_sem ↓] Go.wp_at_zero Go.wp_at_succ
theorem bits_or64_nat (a b : Nat) (ha : a < 18446744073709551616) (hb : b < 18446744073709551616) : bits .or .u64 (a : Int) (b : Int) = ((a ||| b : Nat) : Int) := by
  have hx : a ||| b < 2 ^ 64 := Nat.or_lt_two_pow (by omega) (by omega)
  have h1 : (BitVec.ofInt 64 (a : Int)).toNat = a := by rw [BitVec.ofInt_natCast, BitVec.toNat_ofNat]; exact Nat.mod_eq_of_lt (by omega)
  have h2 : (BitVec.ofInt 64 (b : Int)).toNat = b := by rw [BitVec.ofInt_natCast, BitVec.toNat_ofNat]; exact Nat.mod_eq_of_lt (by omega)
  show IntKind.u64.wrap ((BitVec.ofInt 64 (a : Int) ||| BitVec.ofInt 64 (b : Int)).toNat : Int) = _
  have hw : ∀ m : Int, IntKind.u64.wrap m = m % 18446744073709551616 := fun m => by simp [IntKind.wrap, IntKind.bits, IntKind.signed]
  rw [BitVec.toNat_or, h1, h2, hw]
  omega
theorem bits_or64 (r z : Int) (hr0 : 0 ≤ r) (hr1 : r < 4294967296) (hz0 : 0 ≤ z) (hz1 : z < 4294967296) : bits .or .u64 (r * 4294967296) z = r * 4294967296 + z := by
  have e1 : r * 4294967296 = ((r.toNat * 2 ^ 32 : Nat) : Int) := by omega
  have e2 : z = (z.toNat : Int) := by omega
  have e3 : r.toNat * 2 ^ 32 ||| z.toNat = r.toNat * 2 ^ 32 + z.toNat := by
    have := Nat.shiftLeft_add_eq_or_of_lt (i := 32) (b := z.toNat) (by omega) r.toNat
    rw [Nat.shiftLeft_eq] at this
    exact this.symm
  have key := bits_or64_nat (r.toNat * 2 ^ 32) z.toNat (by omega) (by omega)
  rw [e3, ← e1, ← e2] at key
  rw [key]
  omega
theorem div_step {B d r z q r' : Int} {zs ss : List Int} {k : Nat} (hk : k < ss.length) (hz : zs[k]?.getD 0 = z) (hq : z + B * r = d * q + r') (h : val B (zs.drop (k + 1)) = d * val B (ss.drop (k + 1)) + r) :
    val B (zs.drop k) = d * val B ((ss.set k q).drop k) + r' := by
  rw [val_drop, val_set_drop _ _ _ _ hk, hz, h, Int.mul_add, Int.mul_add, ← Int.mul_assoc d B, Int.mul_comm d B, Int.mul_assoc B d]
  omega
theorem grown_set {w wr : World} {g : Nat} (h : w.grownBy wr (some g)) (o : Nat) (u : Value) : w.grownBy (wr.setCell ⟨g, o, none⟩ u) (some g) :=
  ⟨h.os, h.tape, h.output, by simpa [World.setCell] using h.size, fun k hk hne => (Below.heap_setCell _ _ _ _ (fun e => hne (by rw [e]))).trans (h.block k hk hne)⟩
theorem grown_refl (w : World) (r : Option Nat) : w.grownBy w r := ⟨rfl, rfl, rfl, Nat.le_refl _, fun _ _ _ => rfl⟩
theorem Blk.grown {w w' : World} {g g' : Nat} {k : IntKind} {T : TypeId} {cap : Nat} {zs : List Int} (h : Blk w g k T cap zs) (hg : w.grownBy w' (some g')) (hne : g ≠ g') : Blk w' g k T cap zs := h.same (hg.block g h.lt (by simpa using hne))
theorem grown_below {w w' : World} {g : Nat} (h : w.grownBy w' (some g)) {B : Nat} (hB : B ≤ g) (hs : B ≤ w.heap.size) : Below B w w' := ⟨h.os, h.tape, h.output, h.size, fun k hk => h.block k (by omega) (by simp; omega)⟩
set_option maxHeartbeats 1000000 in
theorem divideByWord_any (g cap capS : Nat) (zs : List Int) (d : Int) (w : World) (hz : Blk w g .u32 74 cap zs) (hzw : Words 4294967296 zs) (hl : zs.length ≤ 4000000) (hd0 : 0 < d) (hd1 : d < 4294967296) :
    Calls Tryz.prog 76 #[.slice (some ⟨g, 0, none⟩) zs.length capS, .int .u32 d] w fun e w' => ∃ r zs', e = .returned (.int .u32 r) ∧ 0 ≤ r ∧ r < d ∧ Blk w' g .u32 74 cap zs' ∧ zs'.length = zs.length ∧ Words 4294967296 zs' ∧ val 4294967296 zs = d * val 4294967296 zs' + r ∧ w.grownBy w' (some g) := by
  go_enter Tryz.func76, Tryz.ntmps76
  go_wp2
  go_loopw [5, 6, 7] (fun r i u7 wr => ∃ (k : Nat) (rr : Int) (ss : List Int), k ≤ zs.length ∧ i = .int .i64 (k - 1) ∧ r = .int .u64 rr ∧ 0 ≤ rr ∧ rr < d ∧ Blk wr g .u32 74 cap ss ∧ Hid (ss.length = zs.length) ∧ Words 4294967296 ss ∧ Hid (∀ j, j < k → ss[j]?.getD 0 = zs[j]?.getD 0) ∧ Hid (val 4294967296 (zs.drop k) = d * val 4294967296 (ss.drop k) + rr) ∧ w.grownBy wr (some g)) (fun _ i _ _ => (intOf i + 1).toNat)
  case atStart => exact ⟨zs.length, 0, zs, Nat.le_refl _, rfl, rfl, by omega, by omega, hz, rfl, hzw, fun _ _ => rfl, by simp [val, Hid], grown_refl _ _⟩
  case round =>
    obtain ⟨k, rr, ss, hk, rfl, rfl, hr0, hr1, hblk, hsl, hsw, HE, HV, hgr⟩ := hrel
    cases k with
    | zero =>
      go_wp2
      go_ret
      have HV' := HV.out
      simp only [List.drop_zero] at HV'
      exact ⟨rr, ss, rfl, hr0, hr1, hblk, hsl.out, hsw, HV', hgr⟩
    | succ k =>
      have hsk : k < ss.length := by have := hsl.out; omega
      obtain ⟨z, hz', hz0, hz1⟩ := hsw.get (by decide) k
      have hcs := hblk.cell k hsk
      rw [hz'] at hcs
      have hfr := hblk.frozen k
      have hor := bits_or64 rr z hr0 (by omega) hz0 hz1
      have hzz : zs[k]?.getD 0 = z := by rw [← HE.out k (by omega)]; exact hz'
      have HS : Hid (Hid (val 4294967296 (zs.drop k) = d * val 4294967296 ((ss.set k ((rr * 4294967296 + z) / d)).drop k) + (rr * 4294967296 + z) % d)) := div_step hsk hzz (by have := Int.emod_add_mul_ediv (rr * 4294967296 + z) d; omega) HV.out
      have hq0 : 0 ≤ (rr * 4294967296 + z) / d := Int.ediv_nonneg (by omega) (by omega)
      have hq1 : (rr * 4294967296 + z) / d < 4294967296 := Int.ediv_lt_of_lt_mul hd0 (by
        have : (rr + 1) * 4294967296 ≤ d * 4294967296 := Int.mul_le_mul_of_nonneg_right (by omega) (by omega)
        omega)
      have hm0 := Int.emod_nonneg (rr * 4294967296 + z) (b := d) (by omega)
      have hm1 := Int.emod_lt_of_pos (rr * 4294967296 + z) hd0
      clear hz' hzz HV hsk
      go_wp2
      go_roundw
      case rel => exact ⟨k, _, _, by omega, rfl, rfl, by omega, by omega, hblk.set k _, by show _ = _; rw [List.length_set]; exact hsl.out, hsw.set k (by omega), fun j hj => by rw [List.getElem?_set_ne (by omega)]; exact HE.out j (by omega), HS, grown_set hgr _ _⟩
      case measure => simp [intOf]
theorem Own.some {w : World} {base : Nat} {k : IntKind} {T : TypeId} {B : Int} {a : Option Addr} {cap : Nat} {zs : List Int} (h : Own w base k T B a cap zs) (hne : 0 < zs.length) : ∃ g, a = some ⟨g, 0, none⟩ ∧ base ≤ g ∧ Blk w g k T cap zs := by
  obtain ⟨_, ⟨_, _, rfl⟩ | h⟩ := h
  · simp at hne
  · exact h
/-- What divide answers: quotient and remainder, new rows. -/
def DivOut (w : World) (base : Nat) (e : Ending) (xs ys : List Int) : Prop :=
  ∃ qa qc qs ra rc rs, e = .returned (.tuple #[.slice qa qs.length qc, .slice ra rs.length rc]) ∧ Own w base .u32 74 4294967296 qa qc qs ∧ Own w base .u32 74 4294967296 ra rc rs ∧ val 4294967296 xs = val 4294967296 ys * val 4294967296 qs + val 4294967296 rs ∧ val 4294967296 rs < val 4294967296 ys ∧ qs.length ≤ xs.length + 1 ∧ rs.length ≤ xs.length + ys.length
/-- The contract of divideLong, where it is asked. -/
def LongSaid (xs ys : List Int) : Prop := ∀ (x y : Option Addr) (ca cb : Nat) (w : World), Row w .u32 4294967296 x ca xs → Row w .u32 4294967296 y cb ys →
  Calls Tryz.prog 106 #[.slice x xs.length ca, .slice y ys.length cb] w fun e w' => DivOut w' w.heap.size e xs ys ∧ Below w.heap.size w w'
set_option maxHeartbeats 1000000 in
theorem divide_any (x y : Option Addr) (ca cb : Nat) (xs ys : List Int) (w : World) (ha : Row w .u32 4294967296 x ca xs) (hb : Row w .u32 4294967296 y cb ys) (hl : xs.length ≤ 900000) (hlb : ys.length ≤ 900000) (nx : nrm xs) (ny : nrm ys) (hy : 0 < ys.length)
    (hlong : ys.length ≠ 1 → val 4294967296 ys ≤ val 4294967296 xs → LongSaid xs ys) :
    Calls Tryz.prog 80 #[.slice x xs.length ca, .slice y ys.length cb] w fun e w' => DivOut w' w.heap.size e xs ys ∧ Below w.heap.size w w' := by
  have hxv := val_nonneg (by decide) ha.words
  have hyv := nrm_val_pos (by decide) hb.words ny (List.length_pos_iff.1 hy)
  have HL : Hid _ := hlong
  clear hlong
  by_cases hv : val 4294967296 xs < val 4294967296 ys
  · have hc : cmpI (val 4294967296 xs) (val 4294967296 ys) < 0 := by rw [cmpI_lt hv]; decide
    replace hv : Hid _ := hv
    go_enter Tryz.func80, Tryz.ntmps80
    go_wp2_with fail
    refine (compare_any x y ca cb xs ys _ ha hb (by omega) (by omega) nx ny).mono ?_
    rintro e w1 ⟨rfl, hb1⟩
    go_wp2_with fail
    refine (clone_any x ca xs _ (ha.next hb1) (by omega)).mono ?_
    rintro e w2 ⟨x', c', rfl, hown, hb2⟩
    go_wp2
    go_ret2
    exact ⟨⟨none, 0, [], x', c', xs, rfl, Own.empty _ _ _ _ _, hown.mono hb1.size, by simp [val], hv.out, by simp, by omega⟩, bthen hb1 hb2⟩
  · have hc : ¬ cmpI (val 4294967296 xs) (val 4294967296 ys) < 0 := by
      have := cmpI_cases (val 4294967296 xs) (val 4294967296 ys); omega
    have hxl : 0 < xs.length := by
      by_cases h : xs = []
      · subst h; simp [val] at hv; omega
      · exact List.length_pos_iff.2 h
    replace hv : Hid _ := hv
    by_cases h1 : ys.length = 1
    · have hbeq : ((ys.length : Int) == 1) = true := by simp; omega
      have HY : Hid (ys.length = 1) := h1
      clear h1
      obtain ⟨y, rfl⟩ := hb.some_of hy
      go_enter Tryz.func80, Tryz.ntmps80
      go_wp2_with fail
      refine (compare_any x (some y) ca cb xs ys _ ha hb (by omega) (by omega) nx ny).mono ?_
      rintro e w1 ⟨rfl, hb1⟩
      go_wp2_with fail
      refine (clone_any x ca xs _ (ha.next hb1) (by omega)).mono ?_
      rintro e w2 ⟨x', c', rfl, hown, hb2⟩
      obtain ⟨g, rfl, hg, hblk⟩ := hown.some hxl
      have hB2 := bthen hb1 hb2
      obtain ⟨d, hd, hd0, hd1⟩ := hb.words.get (by decide) 0
      have hcy := (hb.next hB2).cell y rfl 0 hy
      rw [hd, show y.add 0 = y from rfl] at hcy
      have hvy : Hid (val 4294967296 ys = d) := by
        have hy1 := HY.out
        match ys, hy1, hd with
        | [e], _, hd => simp at hd; subst hd; simp [val, Hid]
      clear hd
      have hdp : 0 < d := by rw [← hvy.out]; exact hyv
      go_wp2_with fail
      refine (divideByWord_any g c' c' xs d _ hblk ha.words (by omega) hdp hd1).mono ?_
      rintro e w3 ⟨r, qs, rfl, hr0, hr1, hblk3, hsl, hsw, hvv, hgr⟩
      replace hsl : Hid _ := hsl
      replace hvv : Hid _ := hvv
      have hB3 : Below w.heap.size w w3 := hB2.trans (grown_below hgr (by have := hb1.size; omega) hB2.size)
      go_wp2
      go_ret2
      have hbn := Blk.new w3 .u32 74 [r] (by simp [maxLen])
      refine ⟨⟨some ⟨g, 0, none⟩, c', qs, some ⟨w3.heap.size, 0, none⟩, 1, [r], by rw [hsl.out]; rfl, (hblk3.alloc _).own hsw (by have := hb1.size; omega), hbn.own (Words.one (by omega)) hB3.size, ?_, ?_, ?_, by simp; omega⟩, hB3.alloc hB3.size _⟩
      · rw [hvy.out, hvv.out]; simp [val]
      · rw [hvy.out]; simp [val]; omega
      · rw [hsl.out]; omega
    · have hbeq : ((ys.length : Int) == 1) = false := by simp; omega
      have HLS : Hid _ := HL.out h1 (Int.not_lt.1 hv.out)
      clear h1 HL
      go_enter Tryz.func80, Tryz.ntmps80
      go_wp2_with fail
      refine (compare_any x y ca cb xs ys _ ha hb (by omega) (by omega) nx ny).mono ?_
      rintro e w1 ⟨rfl, hb1⟩
      go_wp2_with fail
      refine (HLS.out x y ca cb _ (ha.next hb1) (hb.next hb1)).mono ?_
      rintro e w2 ⟨⟨qa, qc, qs, ra, rc, rs, rfl, h1, h2, h3, h4, h5, h6⟩, hb2⟩
      replace h3 : Hid _ := h3
      go_wp2
      go_ret2
      exact ⟨⟨qa, qc, qs, ra, rc, rs, rfl, h1.mono hb1.size, h2.mono hb1.size, h3.out, h4, h5, h6⟩, bthen hb1 hb2⟩
end Go.Proofs.YthiiglhecajhbaaGreat
