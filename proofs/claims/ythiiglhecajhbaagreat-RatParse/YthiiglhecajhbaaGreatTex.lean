/- The contract of Text. -/
import Derived.Test.YthiiglhecajhbaaGreatDec
namespace Go.Proofs.YthiiglhecajhbaaGreat
open Go.RowKit
attribute [local go_sem ↓] Go.wp_at_zero Go.wp_at_succ
def lenOf : Value → Nat | .slice _ n _ => n | _ => 0
/-- Numbers as bytes. -/
def u8s (l : List Int) : List UInt8 := l.map (fun z => UInt8.ofNat z.toNat)
theorem u8s_len (l : List Int) : (u8s l).length = l.length := by simp [u8s]
theorem conv_any (w : World) (g cap capS : Nat) (bs : List Int) (hb : Blk w g .u8 5 cap bs) (hw : Words 256 bs) : (convert 99 9 (.slice (some ⟨g, 0, none⟩) bs.length capS)).run Tryz.prog w = .ok (.string ⟨(u8s bs).toArray⟩) w := by
  have h := run_convert_bytes_back (P := Tryz.prog) w 99 9 5 ⟨g, 0, none⟩ capS (u8s bs) Tryz.underlying99 Tryz.underlying5 Tryz.underlying9 (by
    intro j hj
    rw [u8s_len] at hj
    rw [addr_add, Nat.zero_add, hb.cell j hj, List.getElem?_eq_getElem hj]
    have := hw _ (List.getElem_mem hj)
    simp [u8s]
    omega)
  rw [u8s_len] at h
  exact h
/-- The text of a number of these digits, the lowest first. -/
def txt (n : Bool) (ds : List Int) : ByteArray := ⟨(u8s (if n = true then 45 :: (asc ds).reverse else (asc ds).reverse)).toArray⟩
theorem pow_le_left {a b : Int} (h0 : 0 ≤ a) (h : a ≤ b) (n : Nat) : a ^ n ≤ b ^ n := by
  induction n with
  | zero => simp
  | succ n ih =>
    rw [Int.pow_succ, Int.pow_succ]
    have h1 : 0 ≤ a ^ n := Int.pow_nonneg h0
    exact Int.mul_le_mul ih h h0 (by omega)
theorem ten_le {V : Int} {n L : Nat} (h : (10 : Int) ^ n ≤ V) (hV : V < 4294967296 ^ L) : n < 10 * L := by
  by_cases hc : n < 10 * L
  · exact hc
  · have h1 := pow_mono (B := 10) (by decide) (m := 10 * L) (n := n) (by omega)
    have h2 : (4294967296 : Int) ^ L ≤ (10 ^ 10) ^ L := pow_le_left (by decide) (by decide) L
    rw [← Int.pow_mul] at h2
    omega
theorem dec_more {ds dd : List Int} {n : Nat} {V q r z : Int} (hn : ds.length = n) (_hl : dd.length = 9) (hz : z = 1000000000 * q + r) (hd : val 10 dd = r) (h : val 10 ds + z * 10 ^ n = V) : val 10 (ds ++ dd) + q * 10 ^ (n + 9) = V := by
  rw [val_append, hn, hd, ← h, hz, Int.pow_add, show (10 : Int) ^ 9 = 1000000000 from by decide, Int.add_mul, Int.mul_comm (10 ^ n) r, Int.mul_assoc 1000000000, Int.mul_comm 1000000000, Int.mul_assoc q]
  omega
theorem asc_append (xs ys : List Int) : asc (xs ++ ys) = asc xs ++ asc ys := by simp [asc]
theorem asc_take (xs : List Int) (n : Nat) : (asc xs).take n = asc (xs.take n) := by simp [asc]
theorem Words.mono {B C : Int} (h : B ≤ C) {zs : List Int} (hz : Words B zs) : Words C zs := fun d hd => by have := hz d hd; omega
set_option maxRecDepth 20000 in
set_option maxHeartbeats 1000000 in
theorem Text_zero (na : Bool) (x : Option Addr) (ca : Nat) (xs : List Int) (w : World) (ha : Row w .u32 4294967296 x ca xs) (_hl : xs.length ≤ 1000) (hz : trimmed xs = []) :
    Calls Tryz.prog 36 #[.agg #[.bool na, .slice x xs.length ca]] w fun e w' => e = .returned (.string ⟨#[48]⟩) ∧ Below w.heap.size w w' := by
  have hbel : Below w.heap.size w (w.alloc (.cells #[.bool na, .slice x xs.length ca] 24)) := (Below.refl _ _).alloc (Nat.le_refl _) _
  have hz' : (trimmed xs).length = 0 := by simp [hz]
  have tx := trimmed_le xs
  clear hz
  have key := clone_any x ca (trimmed xs) _ ((ha.next hbel).trim) (by omega)
  rw [hz'] at key
  replace key : Hid _ := key
  go_enter Tryz.func36, Tryz.ntmps36
  go_wp2_with (first
    | (go_at_call 74; refine (trim_any _ _ _ _ (ha.next hbel)).mono ?_; rintro e w' ⟨rfl, rfl⟩)
    | (go_at_call 73; refine Calls.mono key.out ?_; rintro e w' ⟨x', c', rfl, hown, hb1⟩))
  go_ret
  exact ⟨rfl, bthen hbel hb1⟩
set_option maxRecDepth 20000 in
set_option maxHeartbeats 4000000 in
theorem Text_any (na : Bool) (x : Option Addr) (ca : Nat) (xs : List Int) (w : World) (ha : Row w .u32 4294967296 x ca xs) (hl : xs.length ≤ 1000) (hz : trimmed xs ≠ []) :
    Calls Tryz.prog 36 #[.agg #[.bool na, .slice x xs.length ca]] w fun e w' => ∃ ds, Words 10 ds ∧ nrm ds ∧ ds ≠ [] ∧ val 10 ds = val 4294967296 xs ∧ e = .returned (.string (txt na ds)) ∧ Below w.heap.size w w' := by
  have hz' : 0 < (trimmed xs).length := List.length_pos_iff.2 hz
  have hz2 : (((trimmed xs).length : Int) == 0) = false := by simp; omega
  have tx := trimmed_le xs
  have hVp := nrm_val_pos (by decide) ha.words.trimmed (trimmed_nrm xs) hz
  have hVl := val_lt (by decide) ha.words
  rw [trimmed_val] at hVp
  obtain ⟨W, hW⟩ : ∃ W, W = w.alloc (.cells #[.bool na, .slice x xs.length ca] 24) := ⟨_, rfl⟩
  have hbW : Below w.heap.size w W := by rw [hW]; exact (Below.refl _ _).alloc (Nat.le_refl _) _
  have hlt : w.heap.size < W.heap.size := by rw [hW]; simp
  have c0 : W.cell? ⟨w.heap.size, 0, none⟩ = some (.bool na) := by rw [hW]; simp [go_sem]
  replace hW : Hid _ := hW
  clear hz
  go_enter Tryz.func36, Tryz.ntmps36
  go_wp2_with fail
  rw [← hW.out]
  refine (trim_any _ _ _ _ (ha.next hbW)).mono ?_
  rintro e w1 ⟨rfl, hw1⟩
  rw [hw1]
  clear hw1 w1 hW
  go_wp2_with fail
  refine (clone_any _ _ (trimmed xs) _ ((ha.next hbW).trim) (by omega)).mono ?_
  rintro e w1 ⟨x', capR, rfl, hown, hb1⟩
  obtain ⟨gR, rfl, hgR, hblk0⟩ := hown.some hz'
  go_wp2
  go_loopw [3, 4] (fun rest dg wr => ∃ (rs ds : List Int) (a : Option Addr) (cap : Nat), rest = .slice (some ⟨gR, 0, none⟩) rs.length capR ∧ dg = .slice a ds.length cap ∧ Blk wr gR .u32 74 capR rs ∧ Words 4294967296 rs ∧ nrm rs ∧ rs.length ≤ xs.length ∧ ds.length ≤ 10 * xs.length + 9 ∧ Own wr W.heap.size .u8 5 256 a cap (asc ds) ∧ Words 10 ds ∧ Hid (val 10 ds + val 4294967296 rs * 10 ^ ds.length = val 4294967296 xs) ∧ Hid (ownB a ≠ some gR) ∧ Below W.heap.size W wr) (fun _ dg _ => (val 4294967296 xs).toNat + 10 - lenOf dg)
  case atStart => exact ⟨trimmed xs, [], none, 0, rfl, rfl, hblk0, ha.words.trimmed, trimmed_nrm xs, tx, by simp, Own.empty _ _ _ _ _, Words.nil _, by simp [val, Hid, trimmed_val], by simp [ownB, Hid], hb1⟩
  case round =>
    obtain ⟨rs, ds, a, cap, rfl, rfl, hblk, hrw, hrn, hrl, hdl9, hown, hdw, HV, HO, hbel⟩ := hrel
    by_cases hr : rs = []
    · subst hr
      have hV : Hid (val 10 ds = val 4294967296 xs) := by have := HV.out; simpa [val, Hid] using this
      clear HV
      have hdp : 0 < ds.length := by
        by_cases e : ds = []
        · subst e; have := hV.out; simp [val] at this; omega
        · exact List.length_pos_iff.2 e
      obtain ⟨gD, rfl, hgD, hblkD⟩ := hown.some (by rw [asc_len]; exact hdp)
      have htr : 0 < trimN ds ds.length := by
        by_cases e : trimN ds ds.length = 0
        · have h1 := trimmed_val 10 ds
          have h2 : trimmed ds = [] := by unfold trimmed; rw [e]; rfl
          rw [h2, hV.out] at h1
          simp [val] at h1; omega
        · omega
      replace htr : Hid _ := htr
      go_wp2
      go_loopw [4] (fun dg w2 => ∃ k : Nat, 0 < k ∧ k ≤ ds.length ∧ dg = .slice (some ⟨gD, 0, none⟩) k cap ∧ Hid (trimN ds k = trimN ds ds.length) ∧ w2 = wr) (fun dg _ => lenOf dg)
      case atStart => exact ⟨ds.length, hdp, Nat.le_refl _, rfl, rfl, rfl⟩
      case round =>
        obtain ⟨k, hk0, hk, rfl, HT, rfl⟩ := hrel
        obtain ⟨k, rfl⟩ : ∃ m, k = m + 1 := ⟨k - 1, by omega⟩
        have hcap : ds.length ≤ cap := by have := hblkD.le; rwa [asc_len] at this
        have hcmx := hblkD.max
        unfold maxLen at hcmx
        have hcd := hblkD.cell k (by rw [asc_len]; omega)
        obtain ⟨d, hd, hd0, hd1⟩ := hdw.get (by decide) k
        have hda : (asc ds)[k]?.getD 0 = 48 + d := by
          rw [← hd]; simp [asc, show k < ds.length by omega]
        rw [hda] at hcd
        clear hda
        by_cases h0 : d = 0
        · subst h0
          have HT' : Hid (trimN ds k = trimN ds ds.length) := by show _ = _; rw [← HT.out]; simp [trimN, hd]
          have hkp : 0 < k := by
            have h1 := HT'.out
            have h2 := htr.out
            have h3 := trimN_le ds k
            omega
          replace hd : Hid _ := hd
          go_wp2
          go_roundw
          case rel => exact ⟨k, hkp, by omega, rfl, HT', by first | rfl | assumption⟩
          case measure => simp [lenOf]
        · have hne : (48 + d == 48) = false := by rw [beq_eq_false_iff_ne]; omega
          have HD : Hid (trimmed ds = ds.take (k + 1)) := by
            show _ = _
            unfold trimmed
            rw [← HT.out]
            simp [trimN, hd, h0]
          replace hd : Hid _ := hd
          have hbk : Blk wr gD .u8 5 cap (asc (ds.take (k + 1))) := by rw [← asc_take]; exact hblkD.take _
          have hkl : (ds.take (k + 1)).length = k + 1 := by rw [List.length_take]; omega
          have hkw := hdw.take (k + 1)
          have hkn : nrm (ds.take (k + 1)) := by rw [← HD.out]; exact trimmed_nrm ds
          have hkv : val 10 (ds.take (k + 1)) = val 4294967296 xs := by rw [← HD.out, trimmed_val]; exact hV.out
          have hke : ds.take (k + 1) ≠ [] := by intro e; rw [e] at hkl; simp at hkl
          have c0' := keep_cell hbel c0
          clear HD HT hblkD hown hdw hblk
          generalize ds.take (k + 1) = es at *
          replace hkl : Hid _ := hkl
          replace hkv : Hid _ := hkv
          replace hke : Hid _ := hke
          have hew := asc_words hkw
          have hel : Hid ((asc es).length = k + 1) := by show _ = _; rw [asc_len, hkl.out]
          cases na
          · have key := Reverse_any gD cap cap (asc es) wr hbk (by have := hel.out; omega)
            rw [hel.out] at key
            replace key : Hid _ := key
            go_wp2_with fail
            refine Calls.mono key.out ?_
            rintro e w3 ⟨rfl, hb3, hg3⟩
            have hconv := conv_any w3 gD cap cap (asc es).reverse hb3 (fun d hd => hew d (List.mem_reverse.1 hd))
            rw [List.length_reverse, hel.out] at hconv
            have hbel3 : Below W.heap.size W w3 := hbel.trans (grown_below hg3 hgD hbel.size)
            clear key
            go_wp2
            go_ret
            exact ⟨es, hkw, hkn, hke.out, hkv.out, rfl, bthen hbW hbel3⟩
          · obtain ⟨i0, hi, hz0, hz1, hzz2⟩ := info_parts Tryz.info5
            have hown2 := ((hbk.alloc (.cells #[.int .u8 45] 5)).owns W.heap.size hgD)
            rw [hel.out] at hown2
            replace hown2 : Hid _ := hown2
            have hsz := hbel.size
            go_wp2_with (first
              | (at_builtin; refine wpList_append_lies _ (by rfl) (.tmp 35) (.tmp 36) 99 (by rfl) W.heap.size 5 i0 (.int .u8 0) 1 1 Tryz.underlying99 hi hz0 hz1 hzz2 (by rfl) (by omega) (.slice (some ⟨gD, 0, none⟩) (k + 1) cap) (k + 1) ((asc es).map (Value.int .u8)) (by rfl) hown2.out ⟨wr.heap.size, 0, none⟩ 1 1 [.int .u8 45] (by rfl) (by rfl) (news_one wr .u8 5 45) (one_one _ _) (by omega) (by unfold maxLen; omega) (by omega) (by simp; omega) (wr.heap.size + 1) (by simp) ?_)
              | fail)
            intro g' cap2 w1 hown' hgrow hat hlt'
            have hge : W.heap.size ≤ g' := by
              rcases hat with h | h
              · simp [Value.ownBlock] at h; omega
              · omega
            have hb2 : Blk w1 g' .u8 5 cap2 (asc es ++ [45]) := by
              refine Blk.of_owns (base := W.heap.size) (n := k + 1 + 1) ?_
              rw [List.map_append]
              exact hown'
            have hbel2 : Below W.heap.size W w1 := (hbel.alloc hbel.size _).grown hgrow (by simp; omega) (by intro m hm; simp [Value.ownBlock] at hm; omega)
            have hel2 : Hid ((asc es ++ [45]).length = k + 1 + 1) := by show _ = _; rw [List.length_append, hel.out]; rfl
            have hew2 : Words 256 (asc es ++ [45]) := hew.append (Words.one (by omega))
            have key := Reverse_any g' cap2 cap2 (asc es ++ [45]) w1 hb2 (by have := hel2.out; omega)
            rw [hel2.out] at key
            replace key : Hid _ := key
            clear hown' hgrow hat hown2
            go_wp2_with fail
            refine Calls.mono key.out ?_
            rintro e w3 ⟨rfl, hb3, hg3⟩
            have hconv := conv_any w3 g' cap2 cap2 (asc es ++ [45]).reverse hb3 (fun d hd => hew2 d (List.mem_reverse.1 hd))
            rw [List.length_reverse, hel2.out] at hconv
            have hbel3 : Below W.heap.size W w3 := hbel2.trans (grown_below hg3 hge hbel2.size)
            clear key
            go_wp2
            go_ret
            exact ⟨es, hkw, hkn, hke.out, hkv.out, by simp [txt], bthen hbW hbel3⟩
    · have hrp : 0 < rs.length := List.length_pos_iff.2 hr
      have hrv := nrm_val_pos (by decide) hrw hrn hr
      have hten : (10 : Int) ^ ds.length ≤ val 4294967296 xs := by
        have e := HV.out
        have e1 := val_nonneg (by decide) hdw
        have e2 : 1 * (10 : Int) ^ ds.length ≤ val 4294967296 rs * 10 ^ ds.length := Int.mul_le_mul_of_nonneg_right (by omega) (Int.le_of_lt (Int.pow_pos (by decide)))
        omega
      have hdl := ten_le hten hVl
      have hlen : ((ds.length : Nat) : Int) < val 4294967296 xs := by
        have : ((ds.length : Nat) : Int) < (10 : Int) ^ ds.length := by
          have := Nat.lt_pow_self (n := ds.length) (show 1 < 10 by decide)
          have e : ((10 ^ ds.length : Nat) : Int) = (10 : Int) ^ ds.length := by simp
          omega
        omega
      clear hr
      go_wp2_with fail
      refine (divideByWord_any gR capR capR rs 1000000000 _ hblk hrw (by omega) (by decide) (by decide)).mono ?_
      rintro e w2 ⟨r, zs, rfl, hr0, hr1, hblk2, hsl2, hsw2, hv2, hgr2⟩
      replace hsl2 : Hid _ := hsl2
      replace hv2 : Hid _ := hv2
      have hown2 : Own w2 W.heap.size .u8 5 256 a cap (asc ds) := by
        obtain ⟨h1, h2 | ⟨g, rfl, hg, hb⟩⟩ := hown
        · exact ⟨h1, .inl h2⟩
        · exact ⟨h1, .inr ⟨g, rfl, hg, hb.grown hgr2 (fun e => HO.out (by rw [← e]; rfl))⟩⟩
      have hbel2 : Below W.heap.size W w2 := hbel.trans (grown_below hgr2 hgR hbel.size)
      have key := appendDigits_any r W.heap.size a cap (asc ds) w2 hown2 hbel2.size (by rw [asc_len]; omega) hr0 hr1
      rw [asc_len] at key
      replace key : Hid _ := key
      go_wp2_with fail
      refine Calls.mono key.out ?_
      rintro e w3 ⟨a', cap', dd, rfl, hdd, hddw, hddv, hown3, hO3, hgr3⟩
      replace hdd : Hid _ := hdd
      replace hddv : Hid _ := hddv
      replace hO3 : Hid _ := hO3
      have hblk3 : Blk w3 gR .u32 74 capR zs := hblk2.same (hgr3.block gR hblk2.lt (fun e => HO.out e.symm))
      have hbel3 : Below W.heap.size W w3 := by
        refine hbel2.trans ⟨hgr3.os, hgr3.tape, hgr3.output, hgr3.size, fun k hk => hgr3.block k (by have := hbel2.size; omega) (fun e => ?_)⟩
        obtain ⟨_, ⟨rfl, _⟩ | ⟨g, rfl, hg, _⟩⟩ := hown2
        · cases e
        · simp [ownB] at e; omega
      have key2 := trim_any (some ⟨gR, 0, none⟩) capR zs w3 (hblk3.row hsw2)
      rw [hsl2.out] at key2
      replace key2 : Hid _ := key2
      have HS : Hid (val 10 (ds ++ dd) + val 4294967296 zs * 10 ^ (ds.length + 9) = val 4294967296 xs) := dec_more rfl hdd.out hv2.out hddv.out HV.out
      have tz := trimmed_le zs
      have HOn : Hid (ownB a' ≠ some gR) := by
        intro e
        rcases hO3.out gR e with h | h
        · exact HO.out h
        · have := hblk2.lt; omega
      clear key HV
      go_wp2_with (go_at_call 74; refine Calls.mono key2.out ?_; rintro e w4 ⟨rfl, hw4⟩; rw [hw4]; clear hw4)
      go_roundw
      case rel => exact ⟨trimmed zs, ds ++ dd, a', cap', rfl, by rw [List.length_append, hdd.out], hblk3.trim, hsw2.trimmed, trimmed_nrm zs, by have := hsl2.out; omega, by rw [List.length_append, hdd.out]; omega, by rw [asc_append]; exact hown3, hdw.append hddw, by show _ = _; rw [trimmed_val, List.length_append, hdd.out]; exact HS.out, HOn, hbel3⟩
      case measure => simp [lenOf]; omega
end Go.Proofs.YthiiglhecajhbaaGreat
