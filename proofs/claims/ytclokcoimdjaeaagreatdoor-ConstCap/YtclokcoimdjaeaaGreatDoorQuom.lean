/- Contracts of divideByWord, divide by one word, Quo by one word. -/
import Derived.Test.YtclokcoimdjaeaaGreatDoorOps3m
namespace Go.Proofs.YtclokcoimdjaeaaGreatDoor
open Go.RowKit
attribute [local go_sem ↓] Go.wp_at_zero Go.wp_at_succ
theorem bits_or64_nat (a b : Nat) (ha : a < 18446744073709551616) (hb : b < 18446744073709551616) : bits .or .u64 (a : Int) (b : Int) = ((a ||| b : Nat) : Int) := by
  have hx : a ||| b < 2 ^ 64 := Nat.or_lt_two_pow (by omega) (by omega)
  have h1 : (BitVec.ofInt 64 (a : Int)).toNat = a := by rw [BitVec.ofInt_natCast, BitVec.toNat_ofNat]; exact Nat.mod_eq_of_lt (by omega)
  have h2 : (BitVec.ofInt 64 (b : Int)).toNat = b := by rw [BitVec.ofInt_natCast, BitVec.toNat_ofNat]; exact Nat.mod_eq_of_lt (by omega)
  show IntKind.u64.wrap ((BitVec.ofInt 64 (a : Int) ||| BitVec.ofInt 64 (b : Int)).toNat : Int) = _
  have hw : ∀ m : Int, IntKind.u64.wrap m = m % 18446744073709551616 := fun m => by simp [IntKind.wrap, IntKind.bits, IntKind.signed]
  rw [BitVec.toNat_or, h1, h2, hw]
  omega
theorem bits_or64 (r z : Int) (hr0 : 0 ≤ r) (hr1 : r < 4294967296) (hz0 : 0 ≤ z) (hz1 : z < 4294967296) : bits .or .u64 (r * 4294967296) z = r * 4294967296 + z := by
  have e1 : r * 4294967296 = ((r.toNat * 2 ^ 32 : Nat) : Int) := by omega
  have e2 : z = (z.toNat : Int) := by omega
  have e3 : r.toNat * 2 ^ 32 ||| z.toNat = r.toNat * 2 ^ 32 + z.toNat := by
    have := Nat.shiftLeft_add_eq_or_of_lt (i := 32) (b := z.toNat) (by omega) r.toNat
    rw [Nat.shiftLeft_eq] at this
    exact this.symm
  have key := bits_or64_nat (r.toNat * 2 ^ 32) z.toNat (by omega) (by omega)
  rw [e3, ← e1, ← e2] at key
  rw [key]
  omega
theorem div_step {B d r z q r' : Int} {zs ss : List Int} {k : Nat} (hk : k < ss.length) (hz : zs[k]?.getD 0 = z) (hq : z + B * r = d * q + r') (h : val B (zs.drop (k + 1)) = d * val B (ss.drop (k + 1)) + r) :
    val B (zs.drop k) = d * val B ((ss.set k q).drop k) + r' := by
  rw [val_drop, val_set_drop _ _ _ _ hk, hz, h, Int.mul_add, Int.mul_add, ← Int.mul_assoc d B, Int.mul_comm d B, Int.mul_assoc B d]
  omega
theorem grown_set {w wr : World} {g : Nat} (h : w.grownBy wr (some g)) (o : Nat) (u : Value) : w.grownBy (wr.setCell ⟨g, o, none⟩ u) (some g) :=
  ⟨h.os, h.tape, h.output, by simpa [World.setCell] using h.size, fun k hk hne => (Below.heap_setCell _ _ _ _ (fun e => hne (by rw [e]))).trans (h.block k hk hne)⟩
theorem grown_refl (w : World) (r : Option Nat) : w.grownBy w r := ⟨rfl, rfl, rfl, Nat.le_refl _, fun _ _ _ => rfl⟩
theorem Blk.grown {w w' : World} {g g' : Nat} {k : IntKind} {T : TypeId} {cap : Nat} {zs : List Int} (h : Blk w g k T cap zs) (hg : w.grownBy w' (some g')) (hne : g ≠ g') : Blk w' g k T cap zs := h.same (hg.block g h.lt (by simpa using hne))
theorem grown_below {w w' : World} {g : Nat} (h : w.grownBy w' (some g)) {B : Nat} (hB : B ≤ g) (hs : B ≤ w.heap.size) : Below B w w' := ⟨h.os, h.tape, h.output, h.size, fun k hk => h.block k (by omega) (by simp; omega)⟩
set_option maxHeartbeats 1000000 in
theorem divideByWord_any (g cap capS : Nat) (zs : List Int) (d : Int) (w : World) (hz : Blk w g .u32 139 cap zs) (hzw : Words 4294967296 zs) (hl : zs.length ≤ 4000000) (hd0 : 0 < d) (hd1 : d < 4294967296) :
    Calls Tryz.prog 262 #[.slice (some ⟨g, 0, none⟩) zs.length capS, .int .u32 d] w fun e w' => ∃ r zs', e = .returned (.int .u32 r) ∧ 0 ≤ r ∧ r < d ∧ Blk w' g .u32 139 cap zs' ∧ zs'.length = zs.length ∧ Words 4294967296 zs' ∧ val 4294967296 zs = d * val 4294967296 zs' + r ∧ w.grownBy w' (some g) := by
  go_enter Tryz.func262, Tryz.ntmps262
  go_wp2
  go_loopw [5, 6, 7] (fun r i u7 wr => ∃ (k : Nat) (rr : Int) (ss : List Int), k ≤ zs.length ∧ i = .int .i64 (k - 1) ∧ r = .int .u64 rr ∧ 0 ≤ rr ∧ rr < d ∧ Blk wr g .u32 139 cap ss ∧ Hid (ss.length = zs.length) ∧ Words 4294967296 ss ∧ Hid (∀ j, j < k → ss[j]?.getD 0 = zs[j]?.getD 0) ∧ Hid (val 4294967296 (zs.drop k) = d * val 4294967296 (ss.drop k) + rr) ∧ w.grownBy wr (some g)) (fun _ i _ _ => (intOf i + 1).toNat)
  case atStart => exact ⟨zs.length, 0, zs, Nat.le_refl _, rfl, rfl, by omega, by omega, hz, rfl, hzw, fun _ _ => rfl, by simp [val, Hid], grown_refl _ _⟩
  case round =>
    obtain ⟨k, rr, ss, hk, rfl, rfl, hr0, hr1, hblk, hsl, hsw, HE, HV, hgr⟩ := hrel
    cases k with
    | zero =>
      go_wp2
      go_ret
      have HV' := HV.out
      simp only [List.drop_zero] at HV'
      exact ⟨rr, ss, rfl, hr0, hr1, hblk, hsl.out, hsw, HV', hgr⟩
    | succ k =>
      have hsk : k < ss.length := by have := hsl.out; omega
      obtain ⟨z, hz', hz0, hz1⟩ := hsw.get (by decide) k
      have hcs := hblk.cell k hsk
      rw [hz'] at hcs
      have hfr := hblk.frozen k
      have hor := bits_or64 rr z hr0 (by omega) hz0 hz1
      have hzz : zs[k]?.getD 0 = z := by rw [← HE.out k (by omega)]; exact hz'
      have HS : Hid (Hid (val 4294967296 (zs.drop k) = d * val 4294967296 ((ss.set k ((rr * 4294967296 + z) / d)).drop k) + (rr * 4294967296 + z) % d)) := div_step hsk hzz (by have := Int.emod_add_mul_ediv (rr * 4294967296 + z) d; omega) HV.out
      have hq0 : 0 ≤ (rr * 4294967296 + z) / d := Int.ediv_nonneg (by omega) (by omega)
      have hq1 : (rr * 4294967296 + z) / d < 4294967296 := Int.ediv_lt_of_lt_mul hd0 (by
        have : (rr + 1) * 4294967296 ≤ d * 4294967296 := Int.mul_le_mul_of_nonneg_right (by omega) (by omega)
        omega)
      have hm0 := Int.emod_nonneg (rr * 4294967296 + z) (b := d) (by omega)
      have hm1 := Int.emod_lt_of_pos (rr * 4294967296 + z) hd0
      clear hz' hzz HV hsk
      go_wp2
      go_roundw
      case rel => exact ⟨k, _, _, by omega, rfl, rfl, by omega, by omega, hblk.set k _, by show _ = _; rw [List.length_set]; exact hsl.out, hsw.set k (by omega), fun j hj => by rw [List.getElem?_set_ne (by omega)]; exact HE.out j (by omega), HS, grown_set hgr _ _⟩
      case measure => simp [intOf]
theorem Own.some {w : World} {base : Nat} {k : IntKind} {T : TypeId} {B : Int} {a : Option Addr} {cap : Nat} {zs : List Int} (h : Own w base k T B a cap zs) (hne : 0 < zs.length) : ∃ g, a = some ⟨g, 0, none⟩ ∧ base ≤ g ∧ Blk w g k T cap zs := by
  obtain ⟨_, ⟨_, _, rfl⟩ | h⟩ := h
  · simp at hne
  · exact h
/-- What divide answers: quotient and remainder, new rows. -/
def DivOut (w : World) (base : Nat) (e : Ending) (xs ys : List Int) : Prop :=
  ∃ qa qc qs ra rc rs, e = .returned (.tuple #[.slice qa qs.length qc, .slice ra rs.length rc]) ∧ Own w base .u32 139 4294967296 qa qc qs ∧ Own w base .u32 139 4294967296 ra rc rs ∧ val 4294967296 xs = val 4294967296 ys * val 4294967296 qs + val 4294967296 rs ∧ val 4294967296 rs < val 4294967296 ys ∧ qs.length ≤ xs.length + 1 ∧ rs.length ≤ xs.length + ys.length
/-- The contract of divideLong, where it is asked. -/
def LongSaid (xs ys : List Int) : Prop := ∀ (x y : Option Addr) (ca cb : Nat) (w : World), Row w .u32 4294967296 x ca xs → Row w .u32 4294967296 y cb ys →
  Calls Tryz.prog 263 #[.slice x xs.length ca, .slice y ys.length cb] w fun e w' => DivOut w' w.heap.size e xs ys ∧ Below w.heap.size w w'
set_option maxHeartbeats 1000000 in
theorem divide_any (x y : Option Addr) (ca cb : Nat) (xs ys : List Int) (w : World) (ha : Row w .u32 4294967296 x ca xs) (hb : Row w .u32 4294967296 y cb ys) (hl : xs.length ≤ 900000) (hlb : ys.length ≤ 900000) (nx : nrm xs) (ny : nrm ys) (hy : 0 < ys.length)
    (hlong : ys.length ≠ 1 → val 4294967296 ys ≤ val 4294967296 xs → LongSaid xs ys) :
    Calls Tryz.prog 225 #[.slice x xs.length ca, .slice y ys.length cb] w fun e w' => DivOut w' w.heap.size e xs ys ∧ Below w.heap.size w w' := by
  have hxv := val_nonneg (by decide) ha.words
  have hyv := nrm_val_pos (by decide) hb.words ny (List.length_pos_iff.1 hy)
  have HL : Hid _ := hlong
  clear hlong
  by_cases hv : val 4294967296 xs < val 4294967296 ys
  · have hc : cmpI (val 4294967296 xs) (val 4294967296 ys) < 0 := by rw [cmpI_lt hv]; decide
    replace hv : Hid _ := hv
    go_enter Tryz.func225, Tryz.ntmps225
    go_wp2_with fail
    refine (compare_any x y ca cb xs ys _ ha hb (by omega) (by omega) nx ny).mono ?_
    rintro e w1 ⟨rfl, hb1⟩
    go_wp2_with fail
    refine (clone_any x ca xs _ (ha.next hb1) (by omega)).mono ?_
    rintro e w2 ⟨x', c', rfl, hown, hb2⟩
    go_wp2
    go_ret2
    exact ⟨⟨none, 0, [], x', c', xs, rfl, Own.empty _ _ _ _ _, hown.mono hb1.size, by simp [val], hv.out, by simp, by omega⟩, bthen hb1 hb2⟩
  · have hc : ¬ cmpI (val 4294967296 xs) (val 4294967296 ys) < 0 := by
      have := cmpI_cases (val 4294967296 xs) (val 4294967296 ys); omega
    have hxl : 0 < xs.length := by
      by_cases h : xs = []
      · subst h; simp [val] at hv; omega
      · exact List.length_pos_iff.2 h
    replace hv : Hid _ := hv
    by_cases h1 : ys.length = 1
    · have hbeq : ((ys.length : Int) == 1) = true := by simp; omega
      have HY : Hid (ys.length = 1) := h1
      clear h1
      obtain ⟨y, rfl⟩ := hb.some_of hy
      go_enter Tryz.func225, Tryz.ntmps225
      go_wp2_with fail
      refine (compare_any x (some y) ca cb xs ys _ ha hb (by omega) (by omega) nx ny).mono ?_
      rintro e w1 ⟨rfl, hb1⟩
      go_wp2_with fail
      refine (clone_any x ca xs _ (ha.next hb1) (by omega)).mono ?_
      rintro e w2 ⟨x', c', rfl, hown, hb2⟩
      obtain ⟨g, rfl, hg, hblk⟩ := hown.some hxl
      have hB2 := bthen hb1 hb2
      obtain ⟨d, hd, hd0, hd1⟩ := hb.words.get (by decide) 0
      have hcy := (hb.next hB2).cell y rfl 0 hy
      rw [hd, show y.add 0 = y from rfl] at hcy
      have hvy : Hid (val 4294967296 ys = d) := by
        have hy1 := HY.out
        match ys, hy1, hd with
        | [e], _, hd => simp at hd; subst hd; simp [val, Hid]
      clear hd
      have hdp : 0 < d := by rw [← hvy.out]; exact hyv
      go_wp2_with fail
      refine (divideByWord_any g c' c' xs d _ hblk ha.words (by omega) hdp hd1).mono ?_
      rintro e w3 ⟨r, qs, rfl, hr0, hr1, hblk3, hsl, hsw, hvv, hgr⟩
      replace hsl : Hid _ := hsl
      replace hvv : Hid _ := hvv
      have hB3 : Below w.heap.size w w3 := hB2.trans (grown_below hgr (by have := hb1.size; omega) hB2.size)
      go_wp2
      go_ret2
      have hbn := Blk.new w3 .u32 139 [r] (by simp [maxLen])
      refine ⟨⟨some ⟨g, 0, none⟩, c', qs, some ⟨w3.heap.size, 0, none⟩, 1, [r], by rw [hsl.out]; rfl, (hblk3.alloc _).own hsw (by have := hb1.size; omega), hbn.own (Words.one (by omega)) hB3.size, ?_, ?_, ?_, by simp; omega⟩, hB3.alloc hB3.size _⟩
      · rw [hvy.out, hvv.out]; simp [val]
      · rw [hvy.out]; simp [val]; omega
      · rw [hsl.out]; omega
    · have hbeq : ((ys.length : Int) == 1) = false := by simp; omega
      have HLS : Hid _ := HL.out h1 (Int.not_lt.1 hv.out)
      clear h1 HL
      go_enter Tryz.func225, Tryz.ntmps225
      go_wp2_with fail
      refine (compare_any x y ca cb xs ys _ ha hb (by omega) (by omega) nx ny).mono ?_
      rintro e w1 ⟨rfl, hb1⟩
      go_wp2_with fail
      refine (HLS.out x y ca cb _ (ha.next hb1) (hb.next hb1)).mono ?_
      rintro e w2 ⟨⟨qa, qc, qs, ra, rc, rs, rfl, h1, h2, h3, h4, h5, h6⟩, hb2⟩
      replace h3 : Hid _ := h3
      go_wp2
      go_ret2
      exact ⟨⟨qa, qc, qs, ra, rc, rs, rfl, h1.mono hb1.size, h2.mono hb1.size, h3.out, h4, h5, h6⟩, bthen hb1 hb2⟩
end Go.Proofs.YtclokcoimdjaeaaGreatDoor
namespace Go.Proofs.YtclokcoimdjaeaaGreatDoor
open Go.RowKit
attribute [local go_sem ↓] Go.wp_at_zero Go.wp_at_succ
theorem boxes4 (w : World) (v0 v1 v2 v3 v4 v5 : Value) (T : TypeId) : ∃ W, W = (((w.alloc (.cells #[v0, v1] T)).alloc (.cells #[v2, v3] T)).alloc (.cells #[v4, v5] T)).alloc (.cells #[v4, v5] T) ∧ Below w.heap.size w W ∧ w.heap.size + 1 + 1 + 1 < W.heap.size ∧
    W.cell? ⟨w.heap.size, 0, none⟩ = some v0 ∧ W.cell? ⟨w.heap.size, 1, none⟩ = some v1 ∧ W.cell? ⟨w.heap.size + 1, 0, none⟩ = some v2 ∧ W.cell? ⟨w.heap.size + 1, 1, none⟩ = some v3 ∧ W.cell? ⟨w.heap.size + 1 + 1, 0, none⟩ = some v4 ∧ W.cell? ⟨w.heap.size + 1 + 1, 1, none⟩ = some v5 ∧ W.cell? ⟨w.heap.size + 1 + 1 + 1, 0, none⟩ = some v4 ∧ W.cell? ⟨w.heap.size + 1 + 1 + 1, 1, none⟩ = some v5 ∧
    W.frozen? ⟨w.heap.size + 1 + 1, 0, none⟩ = false ∧ W.frozen? ⟨w.heap.size + 1 + 1, 1, none⟩ = false ∧ W.frozen? ⟨w.heap.size + 1 + 1 + 1, 0, none⟩ = false ∧ W.frozen? ⟨w.heap.size + 1 + 1 + 1, 1, none⟩ = false := by
  refine ⟨_, rfl, ((((Below.refl _ _).alloc (Nat.le_refl _) _).alloc (by simp) _).alloc (by simp; omega) _).alloc (by simp; omega) _, by simp, ?_, ?_, ?_, ?_, ?_, ?_, ?_, ?_, ?_, ?_, ?_, ?_⟩ <;> simp [go_sem, World.cell?_alloc_past, World.frozen?_alloc_past]
theorem cell_set_ne {b' b : Nat} (h : b' ≠ b) {w2 : World} {o o' : Nat} {u : Value} : (w2.setCell ⟨b', o', none⟩ u).cell? ⟨b, o, none⟩ = w2.cell? ⟨b, o, none⟩ := World.cell?_of_block (Below.heap_setCell _ _ _ _ (Ne.symm h))
theorem tdiv_num {B : Int} (na nb : Bool) {xs ys qs rs : List Int} (h : val B xs = val B ys * val B qs + val B rs) (h0 : 0 ≤ val B qs) (h1 : 0 ≤ val B rs) (h2 : val B rs < val B ys) :
    num B (!na == nb) qs = (num B na xs).tdiv (num B nb ys) ∧ num B na rs = (num B na xs).tmod (num B nb ys) := by
  have hx : 0 ≤ val B xs := by rw [h]; have := Int.mul_nonneg (show 0 ≤ val B ys by omega) h0; omega
  have hq : (val B xs).tdiv (val B ys) = val B qs := by
    rw [Int.tdiv_eq_ediv_of_nonneg hx, h, Int.add_comm, Int.add_mul_ediv_left _ _ (by omega), Int.ediv_eq_zero_of_lt h1 h2]; omega
  have hr : (val B xs).tmod (val B ys) = val B rs := by
    rw [Int.tmod_eq_emod_of_nonneg hx, h, Int.add_comm, Int.add_mul_emod_self_left, Int.emod_eq_of_lt h1 h2]
  cases na <;> cases nb <;> simp [num, hq, hr, Int.neg_tdiv, Int.tdiv_neg, Int.neg_tmod, Int.tmod_neg]
set_option maxHeartbeats 1000000 in
theorem Quo_zero (na nb : Bool) (x y : Option Addr) (ca cb : Nat) (xs ys : List Int) (w : World) (ha : Row w .u32 4294967296 x ca xs) (hb : Row w .u32 4294967296 y cb ys) (_hl : xs.length ≤ 900000) (_hlb : ys.length ≤ 900000) (hz : trimmed ys = []) :
    Calls Tryz.prog 161 #[.agg #[.bool na, .slice x xs.length ca], .agg #[.bool nb, .slice y ys.length cb]] w fun e w' => e = .returned (.tuple #[.agg #[.bool false, .slice none 0 0], .agg #[.bool false, .slice none 0 0], .bool false]) ∧ Below w.heap.size w w' := by
  have hz' : (trimmed ys).length = 0 := by simp [hz]
  clear hz
  go_enter Tryz.func161, Tryz.ntmps161
  go_wp2
  obtain ⟨W, hW, hbW, hlt, c0, c1, c2, c3, c4, c5, c6, c7, f4, f5, f6, f7⟩ := boxes4 w (.bool na) (.slice x xs.length ca) (.bool nb) (.slice y ys.length cb) (.bool false) (.slice none 0 0) 28
  rw [← hW]
  clear hW
  have haD : Row W.drew .u32 4294967296 x ca xs := (ha.next hbW).next ((Below.refl _ _).drew)
  have hbD : Row W.drew .u32 4294967296 y cb ys := (hb.next hbW).next ((Below.refl _ _).drew)
  go_region_held3 (fun w' => w'.cell? ⟨w.heap.size, 1, none⟩ = some (.slice x xs.length ca) ∧ w'.cell? ⟨w.heap.size + 1, 1, none⟩ = some (.slice y ys.length cb)) (refine ⟨?_, ?_⟩ <;> first | assumption | exact c1 | exact c3)
    (first
      | (go_at_call_of 163 (Value.slice x xs.length ca); refine (trim_any x ca xs _ haD).mono ?_; rintro e w1 ⟨rfl, rfl⟩)
      | (go_at_call_of 163 (Value.slice y ys.length cb); refine (trim_any y cb ys _ hbD).mono ?_; rintro e w1 ⟨rfl, rfl⟩))
  go_wp2
  refine bodyPost_ret (v := .tuple #[.agg #[.bool false, .slice none 0 0], .agg #[.bool false, .slice none 0 0], .bool false]) (by simp [results, Tryz.results161, go_sem, c4, c5, c6, c7]) rfl ⟨rfl, ?_⟩
  exact ((((hbW.setCell (by simp; omega) _).setCell (by simp; omega) _).setCell (by simp; omega) _).setCell (by simp; omega) _).drew
set_option maxHeartbeats 2000000 in
theorem Quo_any (na nb : Bool) (x y : Option Addr) (ca cb : Nat) (xs ys : List Int) (w : World) (ha : Row w .u32 4294967296 x ca xs) (hb : Row w .u32 4294967296 y cb ys) (hl : xs.length ≤ 400000) (hlb : ys.length ≤ 400000) (hz : trimmed ys ≠ [])
    (hlong : (trimmed ys).length ≠ 1 → val 4294967296 ys ≤ val 4294967296 xs → LongSaid (trimmed xs) (trimmed ys)) :
    Calls Tryz.prog 161 #[.agg #[.bool na, .slice x xs.length ca], .agg #[.bool nb, .slice y ys.length cb]] w fun e w' => ∃ v1 v2, e = .returned (.tuple #[v1, v2, .bool true]) ∧ Out w' w.heap.size v1 ((num 4294967296 na xs).tdiv (num 4294967296 nb ys)) (xs.length + 1) ∧ Out w' w.heap.size v2 ((num 4294967296 na xs).tmod (num 4294967296 nb ys)) (xs.length + ys.length) ∧ Below w.heap.size w w' := by
  have hz' : 0 < (trimmed ys).length := List.length_pos_iff.2 hz
  have hz2 : (((trimmed ys).length : Int) == 0) = false := by simp; omega
  clear hz
  have tx := trimmed_le xs
  have ty := trimmed_le ys
  have HL : Hid ((trimmed ys).length ≠ 1 → val 4294967296 (trimmed ys) ≤ val 4294967296 (trimmed xs) → LongSaid (trimmed xs) (trimmed ys)) := by
    intro h1 h2
    exact hlong h1 (by rwa [trimmed_val, trimmed_val] at h2)
  clear hlong
  go_enter Tryz.func161, Tryz.ntmps161
  go_wp2
  obtain ⟨W, hW, hbW, hlt, c0, c1, c2, c3, c4, c5, c6, c7, f4, f5, f6, f7⟩ := boxes4 w (.bool na) (.slice x xs.length ca) (.bool nb) (.slice y ys.length cb) (.bool false) (.slice none 0 0) 28
  rw [← hW]
  clear hW
  have haD : Row W.drew .u32 4294967296 x ca xs := (ha.next hbW).next ((Below.refl _ _).drew)
  have hbD : Row W.drew .u32 4294967296 y cb ys := (hb.next hbW).next ((Below.refl _ _).drew)
  have hD0 : Below W.heap.size W W.drew := (Below.refl _ _).drew
  go_region_held3 (fun w' => w'.cell? ⟨w.heap.size, 1, none⟩ = some (.slice x xs.length ca) ∧ w'.cell? ⟨w.heap.size + 1, 1, none⟩ = some (.slice y ys.length cb)) (refine ⟨?_, ?_⟩ <;> first | assumption | exact c1 | exact c3)
    (first
      | (go_at_call_of 163 (Value.slice x xs.length ca); refine (trim_any x ca xs _ haD).mono ?_; rintro e w1 ⟨rfl, rfl⟩)
      | (go_at_call_of 163 (Value.slice y ys.length cb); refine (trim_any y cb ys _ hbD).mono ?_; rintro e w1 ⟨rfl, rfl⟩))
  go_wp2_with fail
  refine (divide_any x y ca cb (trimmed xs) (trimmed ys) _ haD.trim hbD.trim (by omega) (by omega) (trimmed_nrm xs) (trimmed_nrm ys) hz' HL.out).mono ?_
  rintro e w1 ⟨⟨qa, qc, qs, ra, rc, rs, rfl, h1, h2, h3, h4, h5, h6⟩, hb1⟩
  replace h3 : Hid _ := h3
  replace h4 : Hid _ := h4
  have hB1 : Below W.heap.size W w1 := bthen hD0 hb1
  have hD1 : Below W.heap.size W w1.drew := hB1.drew
  have h1D : Own w1.drew W.heap.size .u32 139 4294967296 qa qc qs := h1.next ((Below.refl _ _).drew)
  have h2D : Own w1.drew W.heap.size .u32 139 4294967296 ra rc rs := h2.next ((Below.refl _ _).drew)
  have e0 := keep_cell hB1 c0
  have e2 := keep_cell hB1 c2
  clear haD hbD hD0 HL
  have n1 : w.heap.size + 1 + 1 ≠ w.heap.size := by omega
  have n2 : w.heap.size + 1 + 1 ≠ w.heap.size + 1 := by omega
  have n3 : w.heap.size + 1 + 1 + 1 ≠ w.heap.size := by omega
  have n4 : w.heap.size + 1 + 1 + 1 ≠ w.heap.size + 1 := by omega
  go_wp2
  go_region_held3 (fun w' => w'.cell? ⟨w.heap.size, 0, none⟩ = some (.bool na) ∧ w'.cell? ⟨w.heap.size + 1, 0, none⟩ = some (.bool nb)) (((try simp only [cell_set_ne n1, cell_set_ne n2, cell_set_ne n3, cell_set_ne n4]); first | exact ⟨e0, e2⟩ | exact ⟨keep_cell hB2 c0, keep_cell hB2 c2⟩ | exact ⟨keep_cell hB3 c0, keep_cell hB3 c2⟩))
    (first
      | (go_at_call_of 90 (Value.slice qa qs.length qc); refine (number_any (!na == nb) qa qc qs W.heap.size _ h1D (by omega)).mono ?_; rintro e w2 ⟨v, rfl, ⟨neg, a, cap, ds, rfl, hr, hn, hz, hle⟩, hb2⟩; replace hz : Hid _ := hz; replace hn : Hid _ := hn; have hB2 : Below W.heap.size W w2 := bthen hD1 hb2)
      | (go_at_call_of 90 (Value.slice ra rs.length rc); refine (number_any na ra rc rs W.heap.size _ (h2D.next hb2) (by omega)).mono ?_; rintro e w3 ⟨v, rfl, ⟨neg', a', cap', ds', rfl, hr', hn', hzz', hle'⟩, hb3⟩; replace hzz' : Hid _ := hzz'; replace hn' : Hid _ := hn'; have hB3 : Below W.heap.size W w3 := bthen hB2 hb3; have k4 := keep_cell hB3 c4; have k5 := keep_cell hB3 c5; have g4 := keep_frozen hB3 c4 f4; have g5 := keep_frozen hB3 c5 f5; have k6 := keep_cell hB3 c6; have k7 := keep_cell hB3 c7; have g6 := keep_frozen hB3 c6 f6; have g7 := keep_frozen hB3 c7 f7))
  go_wp2
  have hv := tdiv_num (B := 4294967296) na nb h3.out (val_nonneg (by decide) h1.words) (val_nonneg (by decide) h2.words) h4.out
  have hnum : ∀ n (l : List Int), num 4294967296 n (trimmed l) = num 4294967296 n l := fun n l => num_trim _ n l
  rw [hnum, hnum] at hv
  have hl2 : w.heap.size + 1 + 1 < W.heap.size := by omega
  refine bodyPost_ret (v := .tuple #[.agg #[.bool neg, .slice a ds.length cap], .agg #[.bool neg', .slice a' ds'.length cap'], .bool true]) (by simp [results, Tryz.results161, go_sem, k4, k5, k6, k7]) rfl ⟨_, _, rfl, ⟨neg, a, cap, ds, rfl, (((((hr.next hb3).set (by exact hl2) _).set (by exact hl2) _).set (by exact hlt) _).set (by exact hlt) _).mono hbW.size, hn.out, ?_, ?_⟩, ⟨neg', a', cap', ds', rfl, ((((hr'.set (by exact hl2) _).set (by exact hl2) _).set (by exact hlt) _).set (by exact hlt) _).mono hbW.size, hn'.out, ?_, ?_⟩, ?_⟩
  · rw [hz.out]; exact hv.1
  · omega
  · rw [hzz'.out]; exact hv.2
  · omega
  · exact ((((bthen hbW hB3).setCell (by simp; omega) _).setCell (by simp; omega) _).setCell (by simp; omega) _).setCell (by simp; omega) _
end Go.Proofs.YtclokcoimdjaeaaGreatDoor
