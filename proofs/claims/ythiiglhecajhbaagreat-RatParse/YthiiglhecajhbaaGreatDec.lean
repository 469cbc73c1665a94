/- Contracts of appendDigits, Reverse, Text. -/
import Derived.Test.YthiiglhecajhbaaGreatTxt
import Derived.BigRegion
import Derived.RegionTactic
namespace Go.Proofs.YthiiglhecajhbaaGreat
open Go.RowKit
attribute [local go_sem ↓] Go.wp_at_zero Go.wp_at_succ
theorem Tryz.info5 : (Tryz.prog.info? 5).map (fun i => (i.zero, i.size, i.bytes)) = some (some (.int .u8 0), 1, 1) := by kernel_rfl
def asc (ds : List Int) : List Int := ds.map (fun d => 48 + d)
theorem asc_len (ds : List Int) : (asc ds).length = ds.length := by simp [asc]
theorem asc_snoc (ds : List Int) (d : Int) : asc (ds ++ [d]) = asc ds ++ [48 + d] := by simp [asc]
theorem asc_words {ds : List Int} (h : Words 10 ds) : Words 256 (asc ds) := by
  intro d hd
  obtain ⟨e, he, rfl⟩ := List.mem_map.1 hd
  have := h e he
  omega
theorem dec_step {ds : List Int} {k : Nat} {c z : Int} (hl : ds.length = k) (h : val 10 ds + c * 10 ^ k = z) : val 10 (ds ++ [c % 10]) + c / 10 * 10 ^ (k + 1) = z := by
  rw [val_append, hl, ← h, Int.pow_succ]
  have h1 := Int.emod_add_mul_ediv c 10
  have h2 : (c % 10 + 10 * (c / 10)) * 10 ^ k = c * 10 ^ k := by rw [h1]
  have h3 : c / 10 * (10 ^ k * 10) = 10 * (c / 10) * 10 ^ k := by rw [Int.mul_comm 10, Int.mul_assoc, Int.mul_comm 10]
  simp only [val, Int.add_mul] at h2 ⊢
  rw [h3, Int.mul_comm (10 ^ k)]
  simp
  omega
/-- The block in which a slice of one's own lies. -/
def ownB (a : Option Addr) : Option Nat := a.map (·.block)
theorem ownB_eq (a : Option Addr) (n cap : Nat) : (Value.slice a n cap).ownBlock = ownB a := by cases a <;> rfl
theorem grown_step {w wr w1 : World} {r r' : Option Nat} (h : w.grownBy wr r) (h2 : wr.grownBy w1 r') (hr : ∀ g, r' = some g → r = some g ∨ w.heap.size ≤ g) : w.grownBy w1 r :=
  ⟨h2.os.trans h.os, h2.tape.trans h.tape, h2.output.trans h.output, Nat.le_trans h.size h2.size, fun k hk hne => (h2.block k (Nat.lt_of_lt_of_le hk h.size) (fun e => by
    rcases hr k e.symm with h' | h'
    · exact hne h'.symm
    · omega)).trans (h.block k hk hne)⟩
theorem grown_alloc {wr w1 : World} {r : Option Nat} {o : Obj} (h : (wr.alloc o).grownBy w1 r) : wr.grownBy w1 r :=
  ⟨h.os, h.tape, h.output, Nat.le_trans (by simp) h.size, fun k hk hne => (h.block k (by simp; omega) hne).trans (Below.heap_alloc _ _ _ hk)⟩
set_option maxRecDepth 20000 in
set_option maxHeartbeats 1000000 in
theorem appendDigits_any (c0 : Int) (base : Nat) (a : Option Addr) (cap : Nat) (bs : List Int) (w : World) (ha : Own w base .u8 5 256 a cap bs) (hbase : base ≤ w.heap.size) (hl : bs.length ≤ 10000000) (h0 : 0 ≤ c0) (h1 : c0 < 1000000000) :
    Calls Tryz.prog 75 #[.slice a bs.length cap, .int .u32 c0] w fun e w' => ∃ a' cap' ds, e = .returned (.slice a' (bs.length + 9) cap') ∧ ds.length = 9 ∧ Words 10 ds ∧ val 10 ds = c0 ∧ Own w' base .u8 5 256 a' cap' (bs ++ asc ds) ∧ (∀ g, ownB a' = some g → ownB a = some g ∨ w.heap.size ≤ g) ∧ w.grownBy w' (ownB a) := by
  obtain ⟨i0, hi, hz0, hz1, hz2⟩ := info_parts Tryz.info5
  go_enter Tryz.func75, Tryz.ntmps75
  go_wp2
  go_loopw [0, 1, 5] (fun v c i wr => ∃ (k : Nat) (a' : Option Addr) (cap' : Nat) (ds : List Int) (cc : Int), k ≤ 9 ∧ i = .int .i64 k ∧ v = .slice a' (bs.length + k) cap' ∧ c = .int .u32 cc ∧ 0 ≤ cc ∧ cc < 1000000000 ∧ Hid (ds.length = k) ∧ Words 10 ds ∧ Hid (val 10 ds + cc * 10 ^ k = c0) ∧ Own wr base .u8 5 256 a' cap' (bs ++ asc ds) ∧ Hid (∀ g, ownB a' = some g → ownB a = some g ∨ w.heap.size ≤ g) ∧ w.grownBy wr (ownB a)) (fun _ _ i _ => 9 - (intOf i).toNat)
  case atStart => exact ⟨0, a, cap, [], c0, by omega, rfl, rfl, rfl, h0, h1, rfl, Words.nil _, by simp [val, Hid], by simpa [asc] using ha, fun g hg => .inl hg, grown_refl _ _⟩
  case round =>
    obtain ⟨k, a', cap', ds, cc, hk, rfl, rfl, rfl, hc0, hc1, hdl, hdw, HV, hown, HO, hgr⟩ := hrel
    by_cases hlt : k < 9
    · have hsz := hgr.size
      have hown2 := (hown.next ((Below.refl _ wr).alloc (Nat.le_refl _) (.cells #[.int .u8 (48 + cc % 10)] 5))).owns
      have hll : (bs ++ asc ds).length = bs.length + k := by rw [List.length_append, asc_len, hdl.out]
      rw [hll] at hown2
      replace hown2 : Hid _ := hown2
      go_wp2_with (at_builtin; refine wpList_append_lies _ (by rfl) (.tmp 7) (.tmp 12) 99 (by rfl) base 5 i0 (.int .u8 0) 1 1 Tryz.underlying99 hi hz0 hz1 hz2 (by rfl) (by omega) (.slice a' (bs.length + k) cap') (bs.length + k) ((bs ++ asc ds).map (Value.int .u8)) (by rfl) hown2.out ⟨wr.heap.size, 0, none⟩ 1 1 [.int .u8 (48 + cc % 10)] (by rfl) (by rfl) (news_one wr .u8 5 (48 + cc % 10)) (one_one _ _) (by omega) (by unfold maxLen; omega) (by omega) (by simp; omega) (wr.heap.size + 1) (by simp) ?_)
      intro g' cap2 w1 hown' hgrow hat hlt'
      rw [ownB_eq] at hgrow hat
      have hge : base ≤ g' ∧ (∀ g, ownB (some ⟨g', 0, none⟩) = some g → ownB a = some g ∨ w.heap.size ≤ g) := by
        rcases hat with h | h
        · have hb' : ∀ g, ownB a' = some g → base ≤ g := by
            intro g hg
            obtain ⟨_, ⟨rfl, _⟩ | ⟨g2, rfl, hb2, _⟩⟩ := hown
            · cases hg
            · simp [ownB] at hg; omega
          refine ⟨hb' _ h, ?_⟩
          intro g hg
          simp [ownB] at hg
          subst hg
          exact HO.out _ h
        · refine ⟨by omega, ?_⟩
          intro g hg
          simp [ownB] at hg
          omega
      have hblk : Blk w1 g' .u8 5 cap2 (bs ++ asc (ds ++ [cc % 10])) := by
        refine Blk.of_owns (base := base) (n := bs.length + k + 1) ?_
        rw [asc_snoc, ← List.append_assoc, List.map_append]
        simpa using hown'
      have hw2 : Words 256 (bs ++ asc (ds ++ [cc % 10])) := by
        refine Words.append (fun d hd => hown.words d (by simp [hd])) (asc_words (hdw.append (Words.one (by omega))))
      have hgr' := grown_step hgr (grown_alloc hgrow) HO.out
      have HS : Hid (Hid (val 10 (ds ++ [cc % 10]) + cc / 10 * 10 ^ (k + 1) = c0)) := dec_step hdl.out HV.out
      clear hown' hgrow hat hown2 hgr
      go_wp2
      go_roundw
      case rel => exact ⟨k + 1, _, _, ds ++ [cc % 10], _, by omega, by go_num, rfl, rfl, by omega, by omega, by show _ = _; rw [List.length_append, hdl.out]; rfl, hdw.append (Words.one (by omega)), HS, hblk.own hw2 hge.1, hge.2, hgr'⟩
      case measure => simp [intOf]; omega
    · obtain rfl : k = 9 := by omega
      go_wp2
      go_ret
      refine ⟨a', cap', ds, rfl, hdl.out, hdw, ?_, hown, HO.out, hgr⟩
      have e := HV.out
      have e2 := val_nonneg (by decide) hdw
      have e3 : (10 : Int) ^ 9 = 1000000000 := by decide
      rw [e3] at e
      omega
theorem rev_end (bs ss : List Int) (i : Nat) (hl : ss.length = bs.length) (hi : bs.length ≤ 2 * i + 1) (h1 : ∀ t, t < bs.length → (t < i ∨ bs.length < t + i + 1) → ss[t]?.getD 0 = bs[bs.length - 1 - t]?.getD 0) (h2 : ∀ t, i ≤ t → t + i + 1 ≤ bs.length → ss[t]?.getD 0 = bs[t]?.getD 0) : ss = bs.reverse := by
  apply List.ext_getElem?
  intro t
  by_cases ht : t < bs.length
  · have e : ss[t]?.getD 0 = bs[bs.length - 1 - t]?.getD 0 := by
      by_cases hc : t < i ∨ bs.length < t + i + 1
      · exact h1 t ht hc
      · rw [h2 t (by omega) (by omega)]
        have : bs.length - 1 - t = t := by omega
        rw [this]
    rw [List.getElem?_reverse ht, List.getElem?_eq_getElem (by omega), List.getElem?_eq_getElem (by omega)]
    rw [List.getElem?_eq_getElem (by omega), List.getElem?_eq_getElem (by omega)] at e
    simpa using e
  · rw [List.getElem?_eq_none (by omega), List.getElem?_eq_none (by simp; omega)]
theorem rev_step (bs ss : List Int) (k m : Nat) (p q : Int) (hm : m = bs.length - 1 - k) (hkm : k < m) (hl : ss.length = bs.length) (h1 : ∀ t, t < bs.length → (t < k ∨ bs.length < t + k + 1) → ss[t]?.getD 0 = bs[bs.length - 1 - t]?.getD 0) (h2 : ∀ t, k ≤ t → t + k + 1 ≤ bs.length → ss[t]?.getD 0 = bs[t]?.getD 0) (hp : p = bs[k]?.getD 0) (hq : q = bs[m]?.getD 0) :
    ((ss.set k q).set m p).length = bs.length ∧ (∀ t, t < bs.length → (t < k + 1 ∨ bs.length < t + (k + 1) + 1) → ((ss.set k q).set m p)[t]?.getD 0 = bs[bs.length - 1 - t]?.getD 0) ∧ (∀ t, k + 1 ≤ t → t + (k + 1) + 1 ≤ bs.length → ((ss.set k q).set m p)[t]?.getD 0 = bs[t]?.getD 0) := by
  refine ⟨by simpa using hl, fun t ht hc => ?_, fun t h3 h4 => ?_⟩
  · by_cases e1 : t = m
    · subst e1
      have : bs.length - 1 - t = k := by omega
      rw [this, ← hp]
      simp [show t < ss.length by omega]
    · rw [List.getElem?_set_ne (fun h => e1 h.symm)]
      by_cases e2 : t = k
      · subst e2
        rw [← hm, ← hq]
        simp [show t < ss.length by omega]
      · rw [List.getElem?_set_ne (fun h => e2 h.symm)]
        exact h1 t ht (by omega)
  · rw [List.getElem?_set_ne (by omega), List.getElem?_set_ne (by omega)]
    exact h2 t (by omega) (by omega)
theorem grown_drew {w wr : World} {r : Option Nat} (h : w.grownBy wr r) : w.grownBy wr.drew r := ⟨h.os, h.tape, h.output, h.size, h.block⟩
set_option maxRecDepth 20000 in
set_option maxHeartbeats 1000000 in
theorem Reverse_any (g cap capS : Nat) (bs : List Int) (w : World) (hb : Blk w g .u8 5 cap bs) (hl : bs.length ≤ 10000000) :
    Calls Tryz.prog 77 #[.slice (some ⟨g, 0, none⟩) bs.length capS] w fun e w' => e = .returned (.tuple #[]) ∧ Blk w' g .u8 5 cap bs.reverse ∧ w.grownBy w' (some g) := by
  go_enter Tryz.func77, Tryz.ntmps77
  go_wp2
  go_loopw [2, 3] (fun i j wr => ∃ (k : Nat) (ss : List Int), k ≤ bs.length ∧ i = .int .i64 k ∧ j = .int .i64 ((bs.length : Int) - 1 - k) ∧ Blk wr g .u8 5 cap ss ∧ Hid (ss.length = bs.length) ∧ Hid (∀ t, t < bs.length → (t < k ∨ bs.length < t + k + 1) → ss[t]?.getD 0 = bs[bs.length - 1 - t]?.getD 0) ∧ Hid (∀ t, k ≤ t → t + k + 1 ≤ bs.length → ss[t]?.getD 0 = bs[t]?.getD 0) ∧ w.grownBy wr (some g)) (fun i _ _ => bs.length - (intOf i).toNat)
  case atStart => exact ⟨0, bs, Nat.zero_le _, rfl, by go_num, hb, rfl, fun t h1 h2 => by omega, fun _ _ _ => rfl, grown_refl _ _⟩
  case round =>
    obtain ⟨k, ss, hk, rfl, rfl, hblk, hsl, H1, H2, hgr⟩ := hrel
    by_cases hlt : 2 * k + 1 < bs.length
    · obtain ⟨m, hm⟩ : ∃ m : Nat, m = bs.length - 1 - k := ⟨_, rfl⟩
      have hmi : (bs.length : Int) - 1 - (k : Int) = (m : Int) := by omega
      rw [hmi]
      have hkm : (k : Int) < (m : Int) := by omega
      have hk0 : (0 : Int) ≤ (k : Int) := by omega
      have hm0 : (0 : Int) ≤ (m : Int) := by omega
      have hm1 : (m : Int) < (bs.length : Int) := by omega
      have hk1 : (k : Int) < (bs.length : Int) := by omega
      have ck := hblk.cell k (by have := hsl.out; omega)
      have cm := hblk.cell m (by have := hsl.out; omega)
      have fk := hblk.frozen k
      have fm := hblk.frozen m
      have HK := H2.out k (Nat.le_refl _) (by omega)
      have HM := H2.out m (by omega) (by omega)
      generalize ss[k]?.getD 0 = p at *
      generalize ss[m]?.getD 0 = q at *
      replace HK : Hid _ := HK
      replace HM : Hid _ := HM
      replace hm : Hid _ := hm
      replace hmi : Hid _ := hmi
      go_wp2
      go_region
      go_wp2
      have R := rev_step bs ss k m p q hm.out (by omega) hsl.out H1.out H2.out HK.out HM.out
      go_roundw
      case rel => exact ⟨k + 1, (ss.set k q).set m p, by omega, by go_num, (by have := hm.out; go_num), ((hblk.set k q).set m p).drew, R.1, R.2.1, R.2.2, grown_drew (grown_set (grown_set hgr k _) m _)⟩
      case measure => simp [intOf]; omega
    · go_wp2
      go_end0
      exact ⟨rfl, by rw [← rev_end bs ss k hsl.out (by omega) H1.out H2.out]; exact hblk, hgr⟩
end Go.Proofs.YthiiglhecajhbaaGreat
