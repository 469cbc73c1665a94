/- The second road's Text. -/
import Derived.Test.YtdcjgepgiaaaoaaTd
namespace Go.Proofs.Ytdcjgepgiaaaoaa
open Go.RowKit
attribute [local go_sem ↓] Go.wp_at_zero Go.wp_at_succ
theorem app_empty8 (w : World) (p : Addr) (y : Option Addr) (cy : Nat) (t : TypeId) : (Builtin.append_ #[84, 84] t #[.slice (some p) 1 1, .slice y 0 cy]).run Try.prog w = .ok (.slice (some p) 1 1) w := by
  obtain ⟨i0, hi, _, _, _⟩ := info_parts Try.info5
  cases y <;> simp [Builtin.append_, run_underlying Try.underlying84, sizeOf, typeInfo, hi, Builtin.lenOf, Builtin.firstCells, loadCells, loadCellsFrom, storeCells]
theorem app_front (wr : World) (c : Int) (hc : 0 ≤ c ∧ c < 256) (base : Nat) (hb : base ≤ wr.heap.size) (a : Option Addr) (cap : Nat) (bs : List Int) (hr : Row wr .u8 256 a cap bs) (hl : bs.length ≤ 1000000) :
    ∃ a' cap' w', (Builtin.append_ #[84, 84] 84 #[.slice (some ⟨wr.heap.size, 0, none⟩) 1 1, .slice a bs.length cap]).run Try.prog (wr.alloc (.cells #[.int .u8 c] 5)) = .ok (.slice a' (bs.length + 1) cap') w' ∧ Own w' base .u8 5 256 a' cap' (c :: bs) ∧ Below base (wr.alloc (.cells #[.int .u8 c] 5)) w' := by
  obtain ⟨i0, hi, hz0, hz1, hz2⟩ := info_parts Try.info5
  have hblk : Blk (wr.alloc (.cells (cellsOf .u8 [c]) 5)) wr.heap.size .u8 5 [c].length [c] := Blk.new wr .u8 5 [c] (by simp [maxLen])
  have e : cellsOf .u8 [c] = #[.int .u8 c] := rfl
  rw [e] at hblk
  have hown : Own (wr.alloc (.cells #[.int .u8 c] 5)) base .u8 5 256 (some ⟨wr.heap.size, 0, none⟩) 1 [c] := hblk.own (Words.one hc) hb
  have hD : Below wr.heap.size wr (wr.alloc (.cells #[.int .u8 c] 5)) := (Below.refl _ _).alloc (Nat.le_refl _) _
  by_cases hx : bs = []
  · subst hx
    exact ⟨_, _, _, app_empty8 _ _ a cap 84, hown, Below.refl _ _⟩
  · have hpos : 0 < bs.length := List.length_pos_iff.2 hx
    obtain ⟨ad, rfl⟩ := hr.some_of hpos
    obtain ⟨a2, cap2, w2, hrun, hown2, hb2⟩ := run_append_row (P := Try.prog) (wr.alloc (.cells #[.int .u8 c] 5)) 84 84 5 base .u8 1 256 i0 Try.underlying84 hi hz0 hz1 hz2 (some ⟨wr.heap.size, 0, none⟩) 1 1 [c] hown rfl ad bs.length cap bs (hr.next hD) rfl hpos (by omega) (by omega) (by simp; omega)
    rw [Nat.add_comm 1 bs.length] at hrun
    exact ⟨a2, cap2, w2, hrun, hown2, hb2⟩
theorem five_le {V : Int} {n L : Nat} (h : (10 : Int) ^ n ≤ V) (hV : V < 65536 ^ L) : n < 5 * L := by
  by_cases hc : n < 5 * L
  · exact hc
  · have h1 := pow_mono (B := 10) (by decide) (m := 5 * L) (n := n) (by omega)
    have h2 : (65536 : Int) ^ L ≤ (10 ^ 5) ^ L := pow_le_left (by decide) (by decide) L
    rw [← Int.pow_mul] at h2
    omega
theorem dec_one {ds : List Int} {q r z V : Int} {n : Nat} (hn : ds.length = n) (hz : z = 10 * q + r) (h : val 10 ds + z * 10 ^ n = V) : val 10 (ds ++ [r]) + q * 10 ^ (n + 1) = V := by
  rw [val_append, hn, ← h, hz, Int.pow_succ, Int.add_mul, Int.mul_comm (10 ^ n) 10, ← Int.mul_assoc q, Int.mul_comm q 10, Int.mul_assoc 10]
  simp only [val]
  rw [Int.mul_comm (10 ^ n)]
  simp
  omega
theorem asc_rev (ds : List Int) (r : Int) : (asc (ds ++ [r])).reverse = (48 + r) :: (asc ds).reverse := by rw [asc_snoc]; simp
theorem words_rev {B : Int} {l : List Int} (h : Words B l) : Words B l.reverse := fun d hd => h d (List.mem_reverse.1 hd)
set_option maxRecDepth 20000 in
set_option maxHeartbeats 4000000 in
theorem rText_zero (x : Option Addr) (ca : Nat) (w : World) (ha : Row w .i64 65536 x ca []) :
    Calls Try.prog 35 #[.agg #[.bool false, .slice x 0 ca]] w fun e w' => e = .returned (.string ⟨#[48]⟩) ∧ Below w.heap.size w w' := by
  obtain ⟨W, hW, hbW, hlt, c0, c1, _, _⟩ := box1r w (.bool false) (.slice x 0 ca) 30
  have ks := small_any x ca [] 10 W (ha.next hbW) (by decide) (by decide) (by decide)
  replace ks : Hid _ := ks
  go_enter Try.func35, Try.ntmps35
  go_wp2
  rw [← hW]
  clear hW
  refine wp_loop_rounds 2 ?_
  rw [rounds_succ]
  go_wp2_with fail
  refine Calls.mono ks.out ?_
  rintro e w1 ⟨a', cap', qs, r, rfl, hq, hqn, hqv, hr0, hr1, hql, hb1⟩
  clear ks
  have hqe : qs = [] := List.eq_nil_of_length_eq_zero (by simpa using hql)
  subst hqe
  have hre : r = 0 := by simp [val] at hqv; omega
  subst hre
  obtain ⟨a2, cap2, w2, hrun, hown2, hb2⟩ := app_front w1 48 (by decide) W.heap.size hb1.size none 0 [] (Row.empty _ _ _) (by decide)
  replace hrun : Hid _ := hrun
  have hbb : Below W.heap.size W w2 := (hb1.trans ((((Below.refl _ w1).alloc (Nat.le_refl _) _).mono hb1.size))).trans hb2
  obtain ⟨g, rfl, hg, hblk⟩ := hown2.some (by decide)
  have hconv : (convert 84 9 (.slice (some ⟨g, 0, none⟩) 1 cap2)).run Try.prog w2 = .ok (.string ⟨#[48]⟩) w2 := conv_any w2 g cap2 cap2 [48] hblk hown2.words
  have c0' := keep_cell hbb c0
  have hB := bthen hbW hbb
  go_wp2_with (at_builtin; refine wpList_append_run (by rfl) (.tmp 25) (.tmp 26) 84 84 (by rfl) (.slice (some ⟨w1.heap.size, 0, none⟩) 1 1) (.slice none 0 0) (by rfl) (by rfl) _ _ hrun.out ?_)
  rw [rounds_succ]
  go_wp2
  go_ret
  exact ⟨rfl, hB⟩
theorem concat_txt (ds : List Int) : (⟨#[45]⟩ : ByteArray) ++ ⟨(u8s (asc ds).reverse).toArray⟩ = txt true ds := by
  apply ByteArray.ext
  rw [ByteArray.data_append]
  simp [txt, u8s]
set_option maxRecDepth 20000 in
set_option maxHeartbeats 4000000 in
theorem rText_any (na : Bool) (x : Option Addr) (ca : Nat) (xs : List Int) (w : World) (ha : Row w .i64 65536 x ca xs) (hnx : nrm xs) (hne : xs ≠ []) (hl : xs.length ≤ 200) :
    Calls Try.prog 35 #[.agg #[.bool na, .slice x xs.length ca]] w fun e w' => ∃ ds, Words 10 ds ∧ nrm ds ∧ ds ≠ [] ∧ val 10 ds = val 65536 xs ∧ e = .returned (.string (txt na ds)) ∧ Below w.heap.size w w' := by
  obtain ⟨W, hW, hbW, hlt, c0, c1, _, _⟩ := box1r w (.bool na) (.slice x xs.length ca) 30
  have hVl := val_lt (B := 65536) (by decide) ha.words
  generalize hV : val 65536 xs = V at *
  replace hV : Hid _ := hV
  go_enter Try.func35, Try.ntmps35
  go_wp2
  rw [← hW]
  clear hW
  go_loopw [3, 4, 5, 6] (fun b d q r wr => ∃ (zs ds : List Int) (a ab : Option Addr) (cz cb : Nat), b = .slice ab ds.length cb ∧ d = .slice a zs.length cz ∧ Own wr W.heap.size .u8 5 256 ab cb (asc ds).reverse ∧ Row wr .i64 65536 a cz zs ∧ Hid (nrm zs) ∧ zs.length ≤ xs.length ∧ ds.length ≤ 5 * xs.length + 1 ∧ Words 10 ds ∧ Hid (val 10 ds + val 65536 zs * 10 ^ ds.length = V) ∧ Hid (zs = [] → nrm ds ∧ ds ≠ []) ∧ Below W.heap.size W wr) (fun b _ _ _ _ => V.toNat + 2 - lenOf b)
  case atStart => exact ⟨xs, [], x, none, ca, 0, rfl, rfl, Own.empty _ _ _ _ _, ha.next hbW, hnx, Nat.le_refl _, by simp, Words.nil _, by simp [val, Hid]; exact hV.out, fun h => absurd h hne, Below.refl _ _⟩
  case round =>
    obtain ⟨zs, ds, a, ab, cz, cb, rfl, rfl, hown, hrow, hzn, hzl, hdm, hdw, HV, HE, hbel⟩ := hrel
    by_cases hz : zs = []
    · obtain ⟨hdn, hdne⟩ := HE.out hz
      have hdp : 0 < ds.length := List.length_pos_iff.2 hdne
      subst hz
      have hv : Hid (val 10 ds = V) := by have := HV.out; simpa [val, Hid] using this
      have hrl : (asc ds).reverse.length = ds.length := by rw [List.length_reverse, asc_len]
      obtain ⟨g, rfl, hg, hblk⟩ := hown.some (by omega)
      have hconv := conv_any wr g cb cb (asc ds).reverse hblk hown.words
      rw [hrl] at hconv
      have c0' := keep_cell hbel c0
      have hB := bthen hbW hbel
      have hul : (u8s (asc ds).reverse).length ≤ 2000 := by rw [u8s_len, hrl]; omega
      have hdb : ((ds.length : Int) == 0) = false := by simp; exact hdne
      replace hdn : Hid _ := hdn
      replace hdne : Hid _ := hdne
      replace hrl : Hid _ := hrl
      cases na with
      | false =>
        go_wp2
        go_ret
        exact ⟨ds, hdw, hdn.out, hdne.out, hv.out, by simp [txt], hB⟩
      | true =>
        go_wp2
        go_ret
        exact ⟨ds, hdw, hdn.out, hdne.out, hv.out, by rw [← concat_txt]; rfl, hB⟩
    · have hzp : 0 < zs.length := List.length_pos_iff.2 hz
      have hzv := nrm_val_pos (B := 65536) (by decide) hrow.words hzn.out hz
      have hten : (10 : Int) ^ ds.length ≤ V := by
        have e := HV.out
        have e1 := val_nonneg (B := 10) (by decide) hdw
        have e2 : 1 * (10 : Int) ^ ds.length ≤ val 65536 zs * 10 ^ ds.length := Int.mul_le_mul_of_nonneg_right (by omega) (Int.le_of_lt (Int.pow_pos (by decide)))
        omega
      have hdl := five_le hten hVl
      have hlen : ((ds.length : Nat) : Int) < V := by
        have : ((ds.length : Nat) : Int) < (10 : Int) ^ ds.length := by
          have := Nat.lt_pow_self (n := ds.length) (show 1 < 10 by decide)
          have e : ((10 ^ ds.length : Nat) : Int) = (10 : Int) ^ ds.length := by simp
          omega
        omega
      have ks := small_any a cz zs 10 wr hrow (by omega) (by decide) (by decide)
      replace ks : Hid _ := ks
      replace hten : Hid _ := hten
      clear hz
      go_wp2_with fail
      refine Calls.mono ks.out ?_
      rintro e w1 ⟨a', cap', qs, r, rfl, hq, hqn, hqv, hr0, hr1, hql, hb1⟩
      clear ks
      have hrl : (asc ds).reverse.length = ds.length := by rw [List.length_reverse, asc_len]
      have hbel1 : Below W.heap.size W w1 := hbel.trans (hb1.mono hbel.size)
      obtain ⟨a2, cap2, w2, hrun, hown2, hb2⟩ := app_front w1 (48 + r) (by omega) w1.heap.size (Nat.le_refl _) ab cb (asc ds).reverse (hown.row.next hb1) (by omega)
      rw [hrl] at hrun
      rw [← asc_rev] at hown2
      replace hrun : Hid _ := hrun
      have hD : Below w1.heap.size w1 (w1.alloc (.cells #[.int .u8 (48 + r)] 5)) := (Below.refl _ _).alloc (Nat.le_refl _) _
      have hbd : Below w1.heap.size w1 w2 := hD.trans hb2
      have hbb : Below W.heap.size W w2 := hbel1.trans (hbd.mono hbel1.size)
      have HS : Hid (val 10 (ds ++ [r]) + val 65536 qs * 10 ^ (ds.length + 1) = V) := dec_one rfl hqv HV.out
      have hrq : Row w2 .i64 65536 a' cap' qs := hq.1.next hbd
      have HE2 : Hid (qs = [] → nrm (ds ++ [r]) ∧ ds ++ [r] ≠ []) := fun h => by
        subst h
        refine ⟨nrm_snoc _ _ ?_, by simp⟩
        simp [val] at hqv
        omega
      have hl3 : ds.length + 1 = (ds ++ [r]).length := by simp
      replace hl3 : Hid _ := hl3
      replace hqn : Hid _ := hqn
      replace hqv : Hid _ := hqv
      replace hrl : Hid _ := hrl
      clear HV HE
      go_wp2_with (at_builtin; refine wpList_append_run (by rfl) (.tmp 25) (.tmp 26) 84 84 (by rfl) (.slice (some ⟨w1.heap.size, 0, none⟩) 1 1) (.slice ab ds.length cb) (by rfl) (by rfl) _ _ hrun.out ?_)
      go_roundw
      case rel => exact ⟨qs, ds ++ [r], a', a2, cap', cap2, by rw [← hl3.out], rfl, hown2.mono hbel1.size, hrq, hqn, by omega, by rw [← hl3.out]; omega, hdw.append (Words.one ⟨hr0, hr1⟩), by show _ = _; rw [← hl3.out]; exact HS.out, HE2, hbb⟩
      case measure => simp [lenOf]; omega
end Go.Proofs.Ytdcjgepgiaaaoaa
