/- ScanEnds: the law's walk. -/
import Derived.Test.YtffggadmpdmbdaaDoorSu
namespace Go.Proofs.YtffggadmpdmbdaaDoor
open Go.RowKit
attribute [local go_sem ↓] Go.wp_at_zero Go.wp_at_succ
theorem ba_append (a b : List UInt8) : ba a ++ ba b = ba (a ++ b) := by
  apply ByteArray.ext
  unfold ba
  simp
theorem ends_at (k : Nat) (hk : k < 28) (c : Bool) : ∃ ts, scanM (srcL k c) = some (.good ts) ∧ semiB ts = decide (k < 13) := by
  have h := List.all_eq_true.1 ends_all k (List.mem_range.2 hk)
  have h2 : endsB k c = true := by
    cases c
    · exact (Bool.and_eq_true_iff.1 h).2
    · exact (Bool.and_eq_true_iff.1 h).1
  unfold endsB at h2
  split at h2
  · rename_i ts hs
    exact ⟨ts, hs, by simpa using h2⟩
  · cases h2
theorem word_cell (w : World) (k : Nat) (hk : k < 28) : (w.alloc (.cells #[.string ⟨#[97]⟩, .string ⟨#[49]⟩, .string ⟨#[50, 46, 53]⟩, .string ⟨#[34, 115, 34]⟩, .string ⟨#[96, 114, 96]⟩, .string ⟨#[98, 114, 101, 97, 107]⟩, .string ⟨#[99, 111, 110, 116, 105, 110, 117, 101]⟩, .string ⟨#[114, 101, 116, 117, 114, 110]⟩, .string ⟨#[43, 43]⟩, .string ⟨#[45, 45]⟩, .string ⟨#[41]⟩, .string ⟨#[93]⟩, .string ⟨#[125]⟩, .string ⟨#[102, 117, 110, 99]⟩, .string ⟨#[105, 102]⟩, .string ⟨#[43]⟩, .string ⟨#[40]⟩, .string ⟨#[91]⟩, .string ⟨#[123]⟩, .string ⟨#[44]⟩, .string ⟨#[46]⟩, .string ⟨#[58, 61]⟩, .string ⟨#[61]⟩, .string ⟨#[58]⟩, .string ⟨#[126]⟩, .string ⟨#[101, 108, 115, 101]⟩, .string ⟨#[114, 97, 110, 103, 101]⟩, .string ⟨#[38, 94, 61]⟩] 9)).cell? ⟨w.heap.size, k, none⟩ = some (.string (ba (wordsL[k]?.getD []))) := by
  have e : (w.alloc (.cells #[.string ⟨#[97]⟩, .string ⟨#[49]⟩, .string ⟨#[50, 46, 53]⟩, .string ⟨#[34, 115, 34]⟩, .string ⟨#[96, 114, 96]⟩, .string ⟨#[98, 114, 101, 97, 107]⟩, .string ⟨#[99, 111, 110, 116, 105, 110, 117, 101]⟩, .string ⟨#[114, 101, 116, 117, 114, 110]⟩, .string ⟨#[43, 43]⟩, .string ⟨#[45, 45]⟩, .string ⟨#[41]⟩, .string ⟨#[93]⟩, .string ⟨#[125]⟩, .string ⟨#[102, 117, 110, 99]⟩, .string ⟨#[105, 102]⟩, .string ⟨#[43]⟩, .string ⟨#[40]⟩, .string ⟨#[91]⟩, .string ⟨#[123]⟩, .string ⟨#[44]⟩, .string ⟨#[46]⟩, .string ⟨#[58, 61]⟩, .string ⟨#[61]⟩, .string ⟨#[58]⟩, .string ⟨#[126]⟩, .string ⟨#[101, 108, 115, 101]⟩, .string ⟨#[114, 97, 110, 103, 101]⟩, .string ⟨#[38, 94, 61]⟩] 9)).cell? ⟨w.heap.size, k, none⟩ = (#[.string ⟨#[97]⟩, .string ⟨#[49]⟩, .string ⟨#[50, 46, 53]⟩, .string ⟨#[34, 115, 34]⟩, .string ⟨#[96, 114, 96]⟩, .string ⟨#[98, 114, 101, 97, 107]⟩, .string ⟨#[99, 111, 110, 116, 105, 110, 117, 101]⟩, .string ⟨#[114, 101, 116, 117, 114, 110]⟩, .string ⟨#[43, 43]⟩, .string ⟨#[45, 45]⟩, .string ⟨#[41]⟩, .string ⟨#[93]⟩, .string ⟨#[125]⟩, .string ⟨#[102, 117, 110, 99]⟩, .string ⟨#[105, 102]⟩, .string ⟨#[43]⟩, .string ⟨#[40]⟩, .string ⟨#[91]⟩, .string ⟨#[123]⟩, .string ⟨#[44]⟩, .string ⟨#[46]⟩, .string ⟨#[58, 61]⟩, .string ⟨#[61]⟩, .string ⟨#[58]⟩, .string ⟨#[126]⟩, .string ⟨#[101, 108, 115, 101]⟩, .string ⟨#[114, 97, 110, 103, 101]⟩, .string ⟨#[38, 94, 61]⟩] : Array Value)[k]? := World.cell?_alloc_mark w _ 9 (0, 0) k
  rw [e]
  match k, hk with
  | 0, _ => rfl
  | 1, _ => rfl
  | 2, _ => rfl
  | 3, _ => rfl
  | 4, _ => rfl
  | 5, _ => rfl
  | 6, _ => rfl
  | 7, _ => rfl
  | 8, _ => rfl
  | 9, _ => rfl
  | 10, _ => rfl
  | 11, _ => rfl
  | 12, _ => rfl
  | 13, _ => rfl
  | 14, _ => rfl
  | 15, _ => rfl
  | 16, _ => rfl
  | 17, _ => rfl
  | 18, _ => rfl
  | 19, _ => rfl
  | 20, _ => rfl
  | 21, _ => rfl
  | 22, _ => rfl
  | 23, _ => rfl
  | 24, _ => rfl
  | 25, _ => rfl
  | 26, _ => rfl
  | 27, _ => rfl
  | n + 28, h => exact absurd h (by omega)
theorem srcL_len (k : Nat) (hk : k < 28) (c : Bool) : (srcL k c).length < 1000 := by
  have : (List.range 28).all (fun k => decide ((srcL k true).length < 1000) && decide ((srcL k false).length < 1000)) = true := by kernel_rfl
  have h := List.all_eq_true.1 this k (List.mem_range.2 hk)
  cases c
  · simpa using (Bool.and_eq_true_iff.1 h).2
  · simpa using (Bool.and_eq_true_iff.1 h).1
theorem words_len (k : Nat) (hk : k < 28) : (wordsL[k]?.getD []).length < 1000 := by
  have : (List.range 28).all (fun k => decide ((wordsL[k]?.getD []).length < 1000)) = true := by kernel_rfl
  have h := List.all_eq_true.1 this k (List.mem_range.2 hk)
  simpa using h
theorem ba_size (l : List UInt8) : (ba l).size = l.length := by rw [← toList_len, ba_toList]
/-- Bytes made of a text, and a text of them. -/
theorem there_back (w : World) (X : ByteArray) : ∃ cap W, (convert 9 22 (.string X)).run Tryd.prog w = .ok (.slice (some ⟨w.heap.size, 0, none⟩) X.size cap) W ∧ Below w.heap.size w W ∧ (convert 22 9 (.slice (some ⟨w.heap.size, 0, none⟩) X.size cap)).run Tryd.prog W = .ok (.string X) W := by
  refine ⟨_, _, run_bytes_of_string w 9 22 5 X Tryd.underlying9 Tryd.underlying22 Tryd.underlying5, ((Below.refl _ _).drew).alloc (Nat.le_refl _) _, ?_⟩
  have hl : X.size = X.toList.length := (toList_len X).symm
  have h := run_convert_bytes_back (P := Tryd.prog) (w.drew.alloc (.cells (bytesRow X (grownCap w X.size 0 5)) 5 ((bytesRow X (grownCap w X.size 0 5)).size, (bytesRow X (grownCap w X.size 0 5)).size + 1))) 22 9 5 ⟨w.heap.size, 0, none⟩ (grownCap w X.size 0 5) X.toList Tryd.underlying22 Tryd.underlying5 Tryd.underlying9 ?_
  · rw [← hl] at h
    have hx : (⟨X.toList.toArray⟩ : ByteArray) = X := ba_of X
    rw [hx] at h
    exact h
  · intro j hj
    rw [addr_add]
    have e : (w.drew.alloc (.cells (bytesRow X (grownCap w X.size 0 5)) 5 ((bytesRow X (grownCap w X.size 0 5)).size, (bytesRow X (grownCap w X.size 0 5)).size + 1))).cell? ⟨w.heap.size, 0 + j, none⟩ = (bytesRow X (grownCap w X.size 0 5))[0 + j]? := World.cell?_alloc_mark w.drew _ 5 _ (0 + j)
    have hj' : j < X.data.size := by rw [toList_len] at hj; exact hj
    rw [e, Nat.zero_add, bytesRow_at X _ j hj']
    congr 3
    simp [ByteArray.toList_eq]
theorem ends_words (k : Nat) : ba (wordsL[k]?.getD []) ++ ⟨#[10, 98]⟩ = ba (srcL k false) ∧ ba (wordsL[k]?.getD []) ++ ⟨#[32, 47, 42, 32, 120, 10, 32, 42, 47, 32]⟩ ++ ⟨#[10, 98]⟩ = ba (srcL k true) := by
  have e1 : (⟨#[10, 98]⟩ : ByteArray) = ba [10, 98] := rfl
  have e2 : (⟨#[32, 47, 42, 32, 120, 10, 32, 42, 47, 32]⟩ : ByteArray) = ba [32, 47, 42, 32, 120, 10, 32, 42, 47, 32] := rfl
  rw [e1, e2, ba_append, ba_append, ba_append]
  unfold srcL
  simp
set_option maxRecDepth 100000 in
set_option maxHeartbeats 8000000 in
theorem scanEnds_any (k : Int) (cm : Bool) (w : World) (hG : Glob w) (hB2 : 2 < w.heap.size) : Calls Tryd.prog 5 #[.int .i64 k, .bool cm] w fun e w' => e = .returned (.bool true) ∧ Below w.heap.size w w' := by
  have kB : Hid _ := begun_said w hG hB2
  go_enter Tryd.func5, Tryd.ntmps5
  go_wp2_with fail
  refine Calls.mono kB.out ?_
  rintro e w1 ⟨rfl, hB⟩
  clear kB
  by_cases c1 : k < 0
  · have d1 : decide (k < 0) = true := decide_eq_true c1
    cases cm
    · obtain ⟨ts, hts, hse⟩ := ends_at 0 (by omega) false
      rw [show decide ((0 : Nat) < 13) = true from rfl] at hse
      have hcell := word_cell w1 0 (by omega)
      have hX := (ends_words 0).1
      have hXl := srcL_len 0 (by omega) false
      obtain ⟨WK, hWK⟩ : ∃ WK, WK = ba (wordsL[(0 : Nat)]?.getD []) := ⟨_, rfl⟩
      rw [← hWK] at hcell hX
      have hwk : WK.size < 1000 := by rw [hWK, ba_size]; exact words_len _ (by omega)
      clear hWK
      obtain ⟨W1, hW1⟩ : ∃ W1, W1 = w1.alloc (.cells #[.string ⟨#[97]⟩, .string ⟨#[49]⟩, .string ⟨#[50, 46, 53]⟩, .string ⟨#[34, 115, 34]⟩, .string ⟨#[96, 114, 96]⟩, .string ⟨#[98, 114, 101, 97, 107]⟩, .string ⟨#[99, 111, 110, 116, 105, 110, 117, 101]⟩, .string ⟨#[114, 101, 116, 117, 114, 110]⟩, .string ⟨#[43, 43]⟩, .string ⟨#[45, 45]⟩, .string ⟨#[41]⟩, .string ⟨#[93]⟩, .string ⟨#[125]⟩, .string ⟨#[102, 117, 110, 99]⟩, .string ⟨#[105, 102]⟩, .string ⟨#[43]⟩, .string ⟨#[40]⟩, .string ⟨#[91]⟩, .string ⟨#[123]⟩, .string ⟨#[44]⟩, .string ⟨#[46]⟩, .string ⟨#[58, 61]⟩, .string ⟨#[61]⟩, .string ⟨#[58]⟩, .string ⟨#[126]⟩, .string ⟨#[101, 108, 115, 101]⟩, .string ⟨#[114, 97, 110, 103, 101]⟩, .string ⟨#[38, 94, 61]⟩] 9) := ⟨_, rfl⟩
      rw [← hW1] at hcell
      have hbW1 : Below w1.heap.size w1 W1 := by rw [hW1]; exact (Below.refl _ _).alloc (Nat.le_refl _) _
      obtain ⟨cap, W2, h1, h2, h3⟩ := there_back W1 (WK ++ { data := #[10, 98] })
      have hB12 := bthen hB hbW1
      have hB22 := bthen hB12 h2
      have hsz : (WK ++ { data := #[10, 98] }).size < 900000000 := by rw [hX, ba_size]; omega
      have kS : Hid _ := Scan_any W2 (WK ++ { data := #[10, 98] }) _ h3 (hG.next hB22) (by have := hB22.size; omega) hsz (.good ts) (by rw [hX, ba_toList]; exact hts)
      clear hts hX hXl h3
      replace h1 : Hid _ := h1
      replace h2 : Hid _ := h2
      replace hsz : Hid _ := hsz
      replace hse : Hid _ := hse
      replace hB12 : Hid _ := hB12
      replace hB22 : Hid _ := hB22
      go_upto_region 3 with fail
      rw [← hW1]
      clear hW1
      generalize w1.heap.size = G1 at *
      go_upto_region 8 with fail
      go_wp2_with fail
      rw [h1.out]
      simp only [Result.andThen]
      rw [Oper.upon_value]
      generalize WK ++ { data := #[10, 98] } = XX at *
      replace h1 : Hid _ := h1
      go_wp2_with fail
      refine Calls.mono kS.out ?_
      rintro e w3 ⟨⟨a, l, c, rfl, hO⟩, hb3⟩
      clear kS h1
      have hBf := bthen hB22.out hb3
      replace hse := hse.out
      by_cases h5 : ts.length = 5
      · obtain ⟨t0, t1, t2, t3, t4, rfl⟩ : ∃ t0 t1 t2 t3 t4, ts = [t0, t1, t2, t3, t4] := by
          match ts, h5 with
          | [t0, t1, t2, t3, t4], _ => exact ⟨t0, t1, t2, t3, t4, rfl⟩
        obtain ⟨g, cap', e, _, _⟩ := hO.form (by simp)
        cases e
        have q3 : w3.cell? ⟨g, 3, none⟩ = some (.int .i64 t1.kind) := hO.cellAt 3 (by simp)
        have q4 : w3.cell? ⟨g, 4, none⟩ = some (.string t1.text) := hO.cellAt 4 (by simp)
        have hse' : (decide (t1.kind = 7) && (t1.text.toList == [10])) = true := by rw [ByteArray.toList_eq]; exact hse
        clear hse hO h2 h5
        obtain ⟨k1, s1, a1⟩ := t1
        simp only at q3 q4 hse'
        obtain ⟨h7, h8⟩ := Bool.and_eq_true_iff.1 hse'
        have h9 : k1 = 7 := of_decide_eq_true h7
        subst h9
        clear hse' h7
        go_wp2
        go_ret
        exact ⟨rfl, hBf⟩
      · have hl : l = ts.length := by
          rcases hO.2 with ⟨e, e2⟩ | ⟨g2, cap2, cur, e, _⟩
          · cases e; exact e2.symm
          · cases e; rfl
        subst hl
        have d5 : ((ts.length : Int) == 5) = false := by simp; omega
        have hse' : false = true := by
          rw [← hse]
          unfold semiB
          split
          · simp at h5
          · rfl
        cases hse'
    · obtain ⟨ts, hts, hse⟩ := ends_at 0 (by omega) true
      rw [show decide ((0 : Nat) < 13) = true from rfl] at hse
      have hcell := word_cell w1 0 (by omega)
      have hX := (ends_words 0).2
      have hXl := srcL_len 0 (by omega) true
      obtain ⟨WK, hWK⟩ : ∃ WK, WK = ba (wordsL[(0 : Nat)]?.getD []) := ⟨_, rfl⟩
      rw [← hWK] at hcell hX
      have hwk : WK.size < 1000 := by rw [hWK, ba_size]; exact words_len _ (by omega)
      clear hWK
      obtain ⟨W1, hW1⟩ : ∃ W1, W1 = w1.alloc (.cells #[.string ⟨#[97]⟩, .string ⟨#[49]⟩, .string ⟨#[50, 46, 53]⟩, .string ⟨#[34, 115, 34]⟩, .string ⟨#[96, 114, 96]⟩, .string ⟨#[98, 114, 101, 97, 107]⟩, .string ⟨#[99, 111, 110, 116, 105, 110, 117, 101]⟩, .string ⟨#[114, 101, 116, 117, 114, 110]⟩, .string ⟨#[43, 43]⟩, .string ⟨#[45, 45]⟩, .string ⟨#[41]⟩, .string ⟨#[93]⟩, .string ⟨#[125]⟩, .string ⟨#[102, 117, 110, 99]⟩, .string ⟨#[105, 102]⟩, .string ⟨#[43]⟩, .string ⟨#[40]⟩, .string ⟨#[91]⟩, .string ⟨#[123]⟩, .string ⟨#[44]⟩, .string ⟨#[46]⟩, .string ⟨#[58, 61]⟩, .string ⟨#[61]⟩, .string ⟨#[58]⟩, .string ⟨#[126]⟩, .string ⟨#[101, 108, 115, 101]⟩, .string ⟨#[114, 97, 110, 103, 101]⟩, .string ⟨#[38, 94, 61]⟩] 9) := ⟨_, rfl⟩
      rw [← hW1] at hcell
      have hbW1 : Below w1.heap.size w1 W1 := by rw [hW1]; exact (Below.refl _ _).alloc (Nat.le_refl _) _
      obtain ⟨cap, W2, h1, h2, h3⟩ := there_back W1 (WK ++ { data := #[32, 47, 42, 32, 120, 10, 32, 42, 47, 32] } ++ { data := #[10, 98] })
      have hB12 := bthen hB hbW1
      have hB22 := bthen hB12 h2
      have hsz : (WK ++ { data := #[32, 47, 42, 32, 120, 10, 32, 42, 47, 32] } ++ { data := #[10, 98] }).size < 900000000 := by rw [hX, ba_size]; omega
      have kS : Hid _ := Scan_any W2 (WK ++ { data := #[32, 47, 42, 32, 120, 10, 32, 42, 47, 32] } ++ { data := #[10, 98] }) _ h3 (hG.next hB22) (by have := hB22.size; omega) hsz (.good ts) (by rw [hX, ba_toList]; exact hts)
      clear hts hX hXl h3
      replace h1 : Hid _ := h1
      replace h2 : Hid _ := h2
      replace hsz : Hid _ := hsz
      replace hse : Hid _ := hse
      replace hB12 : Hid _ := hB12
      replace hB22 : Hid _ := hB22
      go_upto_region 3 with fail
      rw [← hW1]
      clear hW1
      generalize w1.heap.size = G1 at *
      go_upto_region 8 with fail
      go_wp2_with fail
      rw [h1.out]
      simp only [Result.andThen]
      rw [Oper.upon_value]
      generalize WK ++ { data := #[32, 47, 42, 32, 120, 10, 32, 42, 47, 32] } ++ { data := #[10, 98] } = XX at *
      replace h1 : Hid _ := h1
      go_wp2_with fail
      refine Calls.mono kS.out ?_
      rintro e w3 ⟨⟨a, l, c, rfl, hO⟩, hb3⟩
      clear kS h1
      have hBf := bthen hB22.out hb3
      replace hse := hse.out
      by_cases h5 : ts.length = 5
      · obtain ⟨t0, t1, t2, t3, t4, rfl⟩ : ∃ t0 t1 t2 t3 t4, ts = [t0, t1, t2, t3, t4] := by
          match ts, h5 with
          | [t0, t1, t2, t3, t4], _ => exact ⟨t0, t1, t2, t3, t4, rfl⟩
        obtain ⟨g, cap', e, _, _⟩ := hO.form (by simp)
        cases e
        have q3 : w3.cell? ⟨g, 3, none⟩ = some (.int .i64 t1.kind) := hO.cellAt 3 (by simp)
        have q4 : w3.cell? ⟨g, 4, none⟩ = some (.string t1.text) := hO.cellAt 4 (by simp)
        have hse' : (decide (t1.kind = 7) && (t1.text.toList == [10])) = true := by rw [ByteArray.toList_eq]; exact hse
        clear hse hO h2 h5
        obtain ⟨k1, s1, a1⟩ := t1
        simp only at q3 q4 hse'
        obtain ⟨h7, h8⟩ := Bool.and_eq_true_iff.1 hse'
        have h9 : k1 = 7 := of_decide_eq_true h7
        subst h9
        clear hse' h7
        go_wp2
        go_ret
        exact ⟨rfl, hBf⟩
      · have hl : l = ts.length := by
          rcases hO.2 with ⟨e, e2⟩ | ⟨g2, cap2, cur, e, _⟩
          · cases e; exact e2.symm
          · cases e; rfl
        subst hl
        have d5 : ((ts.length : Int) == 5) = false := by simp; omega
        have hse' : false = true := by
          rw [← hse]
          unfold semiB
          split
          · simp at h5
          · rfl
        cases hse'
  · have d1 : decide (k < 0) = false := decide_eq_false c1
    by_cases c2 : k ≥ 28
    · have d2 : decide (k ≥ 28) = true := decide_eq_true c2
      cases cm
      · obtain ⟨ts, hts, hse⟩ := ends_at 0 (by omega) false
        rw [show decide ((0 : Nat) < 13) = true from rfl] at hse
        have hcell := word_cell w1 0 (by omega)
        have hX := (ends_words 0).1
        have hXl := srcL_len 0 (by omega) false
        obtain ⟨WK, hWK⟩ : ∃ WK, WK = ba (wordsL[(0 : Nat)]?.getD []) := ⟨_, rfl⟩
        rw [← hWK] at hcell hX
        have hwk : WK.size < 1000 := by rw [hWK, ba_size]; exact words_len _ (by omega)
        clear hWK
        obtain ⟨W1, hW1⟩ : ∃ W1, W1 = w1.alloc (.cells #[.string ⟨#[97]⟩, .string ⟨#[49]⟩, .string ⟨#[50, 46, 53]⟩, .string ⟨#[34, 115, 34]⟩, .string ⟨#[96, 114, 96]⟩, .string ⟨#[98, 114, 101, 97, 107]⟩, .string ⟨#[99, 111, 110, 116, 105, 110, 117, 101]⟩, .string ⟨#[114, 101, 116, 117, 114, 110]⟩, .string ⟨#[43, 43]⟩, .string ⟨#[45, 45]⟩, .string ⟨#[41]⟩, .string ⟨#[93]⟩, .string ⟨#[125]⟩, .string ⟨#[102, 117, 110, 99]⟩, .string ⟨#[105, 102]⟩, .string ⟨#[43]⟩, .string ⟨#[40]⟩, .string ⟨#[91]⟩, .string ⟨#[123]⟩, .string ⟨#[44]⟩, .string ⟨#[46]⟩, .string ⟨#[58, 61]⟩, .string ⟨#[61]⟩, .string ⟨#[58]⟩, .string ⟨#[126]⟩, .string ⟨#[101, 108, 115, 101]⟩, .string ⟨#[114, 97, 110, 103, 101]⟩, .string ⟨#[38, 94, 61]⟩] 9) := ⟨_, rfl⟩
        rw [← hW1] at hcell
        have hbW1 : Below w1.heap.size w1 W1 := by rw [hW1]; exact (Below.refl _ _).alloc (Nat.le_refl _) _
        obtain ⟨cap, W2, h1, h2, h3⟩ := there_back W1 (WK ++ { data := #[10, 98] })
        have hB12 := bthen hB hbW1
        have hB22 := bthen hB12 h2
        have hsz : (WK ++ { data := #[10, 98] }).size < 900000000 := by rw [hX, ba_size]; omega
        have kS : Hid _ := Scan_any W2 (WK ++ { data := #[10, 98] }) _ h3 (hG.next hB22) (by have := hB22.size; omega) hsz (.good ts) (by rw [hX, ba_toList]; exact hts)
        clear hts hX hXl h3
        replace h1 : Hid _ := h1
        replace h2 : Hid _ := h2
        replace hsz : Hid _ := hsz
        replace hse : Hid _ := hse
        replace hB12 : Hid _ := hB12
        replace hB22 : Hid _ := hB22
        go_upto_region 3 with fail
        rw [← hW1]
        clear hW1
        generalize w1.heap.size = G1 at *
        go_upto_region 8 with fail
        go_wp2_with fail
        rw [h1.out]
        simp only [Result.andThen]
        rw [Oper.upon_value]
        generalize WK ++ { data := #[10, 98] } = XX at *
        replace h1 : Hid _ := h1
        go_wp2_with fail
        refine Calls.mono kS.out ?_
        rintro e w3 ⟨⟨a, l, c, rfl, hO⟩, hb3⟩
        clear kS h1
        have hBf := bthen hB22.out hb3
        replace hse := hse.out
        by_cases h5 : ts.length = 5
        · obtain ⟨t0, t1, t2, t3, t4, rfl⟩ : ∃ t0 t1 t2 t3 t4, ts = [t0, t1, t2, t3, t4] := by
            match ts, h5 with
            | [t0, t1, t2, t3, t4], _ => exact ⟨t0, t1, t2, t3, t4, rfl⟩
          obtain ⟨g, cap', e, _, _⟩ := hO.form (by simp)
          cases e
          have q3 : w3.cell? ⟨g, 3, none⟩ = some (.int .i64 t1.kind) := hO.cellAt 3 (by simp)
          have q4 : w3.cell? ⟨g, 4, none⟩ = some (.string t1.text) := hO.cellAt 4 (by simp)
          have hse' : (decide (t1.kind = 7) && (t1.text.toList == [10])) = true := by rw [ByteArray.toList_eq]; exact hse
          clear hse hO h2 h5
          obtain ⟨k1, s1, a1⟩ := t1
          simp only at q3 q4 hse'
          obtain ⟨h7, h8⟩ := Bool.and_eq_true_iff.1 hse'
          have h9 : k1 = 7 := of_decide_eq_true h7
          subst h9
          clear hse' h7
          go_wp2
          go_ret
          exact ⟨rfl, hBf⟩
        · have hl : l = ts.length := by
            rcases hO.2 with ⟨e, e2⟩ | ⟨g2, cap2, cur, e, _⟩
            · cases e; exact e2.symm
            · cases e; rfl
          subst hl
          have d5 : ((ts.length : Int) == 5) = false := by simp; omega
          have hse' : false = true := by
            rw [← hse]
            unfold semiB
            split
            · simp at h5
            · rfl
          cases hse'
      · obtain ⟨ts, hts, hse⟩ := ends_at 0 (by omega) true
        rw [show decide ((0 : Nat) < 13) = true from rfl] at hse
        have hcell := word_cell w1 0 (by omega)
        have hX := (ends_words 0).2
        have hXl := srcL_len 0 (by omega) true
        obtain ⟨WK, hWK⟩ : ∃ WK, WK = ba (wordsL[(0 : Nat)]?.getD []) := ⟨_, rfl⟩
        rw [← hWK] at hcell hX
        have hwk : WK.size < 1000 := by rw [hWK, ba_size]; exact words_len _ (by omega)
        clear hWK
        obtain ⟨W1, hW1⟩ : ∃ W1, W1 = w1.alloc (.cells #[.string ⟨#[97]⟩, .string ⟨#[49]⟩, .string ⟨#[50, 46, 53]⟩, .string ⟨#[34, 115, 34]⟩, .string ⟨#[96, 114, 96]⟩, .string ⟨#[98, 114, 101, 97, 107]⟩, .string ⟨#[99, 111, 110, 116, 105, 110, 117, 101]⟩, .string ⟨#[114, 101, 116, 117, 114, 110]⟩, .string ⟨#[43, 43]⟩, .string ⟨#[45, 45]⟩, .string ⟨#[41]⟩, .string ⟨#[93]⟩, .string ⟨#[125]⟩, .string ⟨#[102, 117, 110, 99]⟩, .string ⟨#[105, 102]⟩, .string ⟨#[43]⟩, .string ⟨#[40]⟩, .string ⟨#[91]⟩, .string ⟨#[123]⟩, .string ⟨#[44]⟩, .string ⟨#[46]⟩, .string ⟨#[58, 61]⟩, .string ⟨#[61]⟩, .string ⟨#[58]⟩, .string ⟨#[126]⟩, .string ⟨#[101, 108, 115, 101]⟩, .string ⟨#[114, 97, 110, 103, 101]⟩, .string ⟨#[38, 94, 61]⟩] 9) := ⟨_, rfl⟩
        rw [← hW1] at hcell
        have hbW1 : Below w1.heap.size w1 W1 := by rw [hW1]; exact (Below.refl _ _).alloc (Nat.le_refl _) _
        obtain ⟨cap, W2, h1, h2, h3⟩ := there_back W1 (WK ++ { data := #[32, 47, 42, 32, 120, 10, 32, 42, 47, 32] } ++ { data := #[10, 98] })
        have hB12 := bthen hB hbW1
        have hB22 := bthen hB12 h2
        have hsz : (WK ++ { data := #[32, 47, 42, 32, 120, 10, 32, 42, 47, 32] } ++ { data := #[10, 98] }).size < 900000000 := by rw [hX, ba_size]; omega
        have kS : Hid _ := Scan_any W2 (WK ++ { data := #[32, 47, 42, 32, 120, 10, 32, 42, 47, 32] } ++ { data := #[10, 98] }) _ h3 (hG.next hB22) (by have := hB22.size; omega) hsz (.good ts) (by rw [hX, ba_toList]; exact hts)
        clear hts hX hXl h3
        replace h1 : Hid _ := h1
        replace h2 : Hid _ := h2
        replace hsz : Hid _ := hsz
        replace hse : Hid _ := hse
        replace hB12 : Hid _ := hB12
        replace hB22 : Hid _ := hB22
        go_upto_region 3 with fail
        rw [← hW1]
        clear hW1
        generalize w1.heap.size = G1 at *
        go_upto_region 8 with fail
        go_wp2_with fail
        rw [h1.out]
        simp only [Result.andThen]
        rw [Oper.upon_value]
        generalize WK ++ { data := #[32, 47, 42, 32, 120, 10, 32, 42, 47, 32] } ++ { data := #[10, 98] } = XX at *
        replace h1 : Hid _ := h1
        go_wp2_with fail
        refine Calls.mono kS.out ?_
        rintro e w3 ⟨⟨a, l, c, rfl, hO⟩, hb3⟩
        clear kS h1
        have hBf := bthen hB22.out hb3
        replace hse := hse.out
        by_cases h5 : ts.length = 5
        · obtain ⟨t0, t1, t2, t3, t4, rfl⟩ : ∃ t0 t1 t2 t3 t4, ts = [t0, t1, t2, t3, t4] := by
            match ts, h5 with
            | [t0, t1, t2, t3, t4], _ => exact ⟨t0, t1, t2, t3, t4, rfl⟩
          obtain ⟨g, cap', e, _, _⟩ := hO.form (by simp)
          cases e
          have q3 : w3.cell? ⟨g, 3, none⟩ = some (.int .i64 t1.kind) := hO.cellAt 3 (by simp)
          have q4 : w3.cell? ⟨g, 4, none⟩ = some (.string t1.text) := hO.cellAt 4 (by simp)
          have hse' : (decide (t1.kind = 7) && (t1.text.toList == [10])) = true := by rw [ByteArray.toList_eq]; exact hse
          clear hse hO h2 h5
          obtain ⟨k1, s1, a1⟩ := t1
          simp only at q3 q4 hse'
          obtain ⟨h7, h8⟩ := Bool.and_eq_true_iff.1 hse'
          have h9 : k1 = 7 := of_decide_eq_true h7
          subst h9
          clear hse' h7
          go_wp2
          go_ret
          exact ⟨rfl, hBf⟩
        · have hl : l = ts.length := by
            rcases hO.2 with ⟨e, e2⟩ | ⟨g2, cap2, cur, e, _⟩
            · cases e; exact e2.symm
            · cases e; rfl
          subst hl
          have d5 : ((ts.length : Int) == 5) = false := by simp; omega
          have hse' : false = true := by
            rw [← hse]
            unfold semiB
            split
            · simp at h5
            · rfl
          cases hse'
    · have d2 : decide (k ≥ 28) = false := decide_eq_false c2
      obtain ⟨K, rfl⟩ : ∃ K : Nat, k = (K : Int) := ⟨k.toNat, by omega⟩
      cases cm
      · by_cases h13 : K < 13
        · have d13 : decide ((K : Int) < 13) = true := decide_eq_true (by omega)
          obtain ⟨ts, hts, hse⟩ := ends_at K (by omega) false
          rw [decide_eq_true h13] at hse
          have hcell := word_cell w1 K (by omega)
          have hX := (ends_words K).1
          have hXl := srcL_len K (by omega) false
          obtain ⟨WK, hWK⟩ : ∃ WK, WK = ba (wordsL[(K : Nat)]?.getD []) := ⟨_, rfl⟩
          rw [← hWK] at hcell hX
          have hwk : WK.size < 1000 := by rw [hWK, ba_size]; exact words_len _ (by omega)
          clear hWK
          obtain ⟨W1, hW1⟩ : ∃ W1, W1 = w1.alloc (.cells #[.string ⟨#[97]⟩, .string ⟨#[49]⟩, .string ⟨#[50, 46, 53]⟩, .string ⟨#[34, 115, 34]⟩, .string ⟨#[96, 114, 96]⟩, .string ⟨#[98, 114, 101, 97, 107]⟩, .string ⟨#[99, 111, 110, 116, 105, 110, 117, 101]⟩, .string ⟨#[114, 101, 116, 117, 114, 110]⟩, .string ⟨#[43, 43]⟩, .string ⟨#[45, 45]⟩, .string ⟨#[41]⟩, .string ⟨#[93]⟩, .string ⟨#[125]⟩, .string ⟨#[102, 117, 110, 99]⟩, .string ⟨#[105, 102]⟩, .string ⟨#[43]⟩, .string ⟨#[40]⟩, .string ⟨#[91]⟩, .string ⟨#[123]⟩, .string ⟨#[44]⟩, .string ⟨#[46]⟩, .string ⟨#[58, 61]⟩, .string ⟨#[61]⟩, .string ⟨#[58]⟩, .string ⟨#[126]⟩, .string ⟨#[101, 108, 115, 101]⟩, .string ⟨#[114, 97, 110, 103, 101]⟩, .string ⟨#[38, 94, 61]⟩] 9) := ⟨_, rfl⟩
          rw [← hW1] at hcell
          have hbW1 : Below w1.heap.size w1 W1 := by rw [hW1]; exact (Below.refl _ _).alloc (Nat.le_refl _) _
          obtain ⟨cap, W2, h1, h2, h3⟩ := there_back W1 (WK ++ { data := #[10, 98] })
          have hB12 := bthen hB hbW1
          have hB22 := bthen hB12 h2
          have hsz : (WK ++ { data := #[10, 98] }).size < 900000000 := by rw [hX, ba_size]; omega
          have kS : Hid _ := Scan_any W2 (WK ++ { data := #[10, 98] }) _ h3 (hG.next hB22) (by have := hB22.size; omega) hsz (.good ts) (by rw [hX, ba_toList]; exact hts)
          clear hts hX hXl h3
          replace h1 : Hid _ := h1
          replace h2 : Hid _ := h2
          replace hsz : Hid _ := hsz
          replace hse : Hid _ := hse
          replace hB12 : Hid _ := hB12
          replace hB22 : Hid _ := hB22
          go_upto_region 3 with fail
          rw [← hW1]
          clear hW1
          generalize w1.heap.size = G1 at *
          go_upto_region 8 with fail
          go_wp2_with fail
          rw [h1.out]
          simp only [Result.andThen]
          rw [Oper.upon_value]
          generalize WK ++ { data := #[10, 98] } = XX at *
          replace h1 : Hid _ := h1
          go_wp2_with fail
          refine Calls.mono kS.out ?_
          rintro e w3 ⟨⟨a, l, c, rfl, hO⟩, hb3⟩
          clear kS h1
          have hBf := bthen hB22.out hb3
          replace hse := hse.out
          by_cases h5 : ts.length = 5
          · obtain ⟨t0, t1, t2, t3, t4, rfl⟩ : ∃ t0 t1 t2 t3 t4, ts = [t0, t1, t2, t3, t4] := by
              match ts, h5 with
              | [t0, t1, t2, t3, t4], _ => exact ⟨t0, t1, t2, t3, t4, rfl⟩
            obtain ⟨g, cap', e, _, _⟩ := hO.form (by simp)
            cases e
            have q3 : w3.cell? ⟨g, 3, none⟩ = some (.int .i64 t1.kind) := hO.cellAt 3 (by simp)
            have q4 : w3.cell? ⟨g, 4, none⟩ = some (.string t1.text) := hO.cellAt 4 (by simp)
            have hse' : (decide (t1.kind = 7) && (t1.text.toList == [10])) = true := by rw [ByteArray.toList_eq]; exact hse
            clear hse hO h2 h5
            obtain ⟨k1, s1, a1⟩ := t1
            simp only at q3 q4 hse'
            obtain ⟨h7, h8⟩ := Bool.and_eq_true_iff.1 hse'
            have h9 : k1 = 7 := of_decide_eq_true h7
            subst h9
            clear hse' h7
            go_wp2
            go_ret
            exact ⟨rfl, hBf⟩
          · have hl : l = ts.length := by
              rcases hO.2 with ⟨e, e2⟩ | ⟨g2, cap2, cur, e, _⟩
              · cases e; exact e2.symm
              · cases e; rfl
            subst hl
            have d5 : ((ts.length : Int) == 5) = false := by simp; omega
            have hse' : false = true := by
              rw [← hse]
              unfold semiB
              split
              · simp at h5
              · rfl
            cases hse'
        · have d13 : decide ((K : Int) < 13) = false := decide_eq_false (by omega)
          obtain ⟨ts, hts, hse⟩ := ends_at K (by omega) false
          rw [decide_eq_false h13] at hse
          have hcell := word_cell w1 K (by omega)
          have hX := (ends_words K).1
          have hXl := srcL_len K (by omega) false
          obtain ⟨WK, hWK⟩ : ∃ WK, WK = ba (wordsL[(K : Nat)]?.getD []) := ⟨_, rfl⟩
          rw [← hWK] at hcell hX
          have hwk : WK.size < 1000 := by rw [hWK, ba_size]; exact words_len _ (by omega)
          clear hWK
          obtain ⟨W1, hW1⟩ : ∃ W1, W1 = w1.alloc (.cells #[.string ⟨#[97]⟩, .string ⟨#[49]⟩, .string ⟨#[50, 46, 53]⟩, .string ⟨#[34, 115, 34]⟩, .string ⟨#[96, 114, 96]⟩, .string ⟨#[98, 114, 101, 97, 107]⟩, .string ⟨#[99, 111, 110, 116, 105, 110, 117, 101]⟩, .string ⟨#[114, 101, 116, 117, 114, 110]⟩, .string ⟨#[43, 43]⟩, .string ⟨#[45, 45]⟩, .string ⟨#[41]⟩, .string ⟨#[93]⟩, .string ⟨#[125]⟩, .string ⟨#[102, 117, 110, 99]⟩, .string ⟨#[105, 102]⟩, .string ⟨#[43]⟩, .string ⟨#[40]⟩, .string ⟨#[91]⟩, .string ⟨#[123]⟩, .string ⟨#[44]⟩, .string ⟨#[46]⟩, .string ⟨#[58, 61]⟩, .string ⟨#[61]⟩, .string ⟨#[58]⟩, .string ⟨#[126]⟩, .string ⟨#[101, 108, 115, 101]⟩, .string ⟨#[114, 97, 110, 103, 101]⟩, .string ⟨#[38, 94, 61]⟩] 9) := ⟨_, rfl⟩
          rw [← hW1] at hcell
          have hbW1 : Below w1.heap.size w1 W1 := by rw [hW1]; exact (Below.refl _ _).alloc (Nat.le_refl _) _
          obtain ⟨cap, W2, h1, h2, h3⟩ := there_back W1 (WK ++ { data := #[10, 98] })
          have hB12 := bthen hB hbW1
          have hB22 := bthen hB12 h2
          have hsz : (WK ++ { data := #[10, 98] }).size < 900000000 := by rw [hX, ba_size]; omega
          have kS : Hid _ := Scan_any W2 (WK ++ { data := #[10, 98] }) _ h3 (hG.next hB22) (by have := hB22.size; omega) hsz (.good ts) (by rw [hX, ba_toList]; exact hts)
          clear hts hX hXl h3
          replace h1 : Hid _ := h1
          replace h2 : Hid _ := h2
          replace hsz : Hid _ := hsz
          replace hse : Hid _ := hse
          replace hB12 : Hid _ := hB12
          replace hB22 : Hid _ := hB22
          go_upto_region 3 with fail
          rw [← hW1]
          clear hW1
          generalize w1.heap.size = G1 at *
          go_upto_region 8 with fail
          go_wp2_with fail
          rw [h1.out]
          simp only [Result.andThen]
          rw [Oper.upon_value]
          generalize WK ++ { data := #[10, 98] } = XX at *
          replace h1 : Hid _ := h1
          go_wp2_with fail
          refine Calls.mono kS.out ?_
          rintro e w3 ⟨⟨a, l, c, rfl, hO⟩, hb3⟩
          clear kS h1
          have hBf := bthen hB22.out hb3
          replace hse := hse.out
          by_cases h5 : ts.length = 5
          · obtain ⟨t0, t1, t2, t3, t4, rfl⟩ : ∃ t0 t1 t2 t3 t4, ts = [t0, t1, t2, t3, t4] := by
              match ts, h5 with
              | [t0, t1, t2, t3, t4], _ => exact ⟨t0, t1, t2, t3, t4, rfl⟩
            obtain ⟨g, cap', e, _, _⟩ := hO.form (by simp)
            cases e
            have q3 : w3.cell? ⟨g, 3, none⟩ = some (.int .i64 t1.kind) := hO.cellAt 3 (by simp)
            have q4 : w3.cell? ⟨g, 4, none⟩ = some (.string t1.text) := hO.cellAt 4 (by simp)
            have hse' : (decide (t1.kind = 7) && (t1.text.toList == [10])) = false := by rw [ByteArray.toList_eq]; exact hse
            clear hse hO h2 h5
            obtain ⟨k1, s1, a1⟩ := t1
            simp only at q3 q4 hse'
            by_cases h7 : k1 = 7
            · subst h7
              rw [decide_eq_true rfl, Bool.true_and] at hse'
              go_wp2
              go_ret
              exact ⟨rfl, hBf⟩
            · have d7 : (k1 == 7) = false := by simp [h7]
              clear hse'
              go_wp2
              go_ret
              exact ⟨rfl, hBf⟩
          · have hl : l = ts.length := by
              rcases hO.2 with ⟨e, e2⟩ | ⟨g2, cap2, cur, e, _⟩
              · cases e; exact e2.symm
              · cases e; rfl
            subst hl
            have d5 : ((ts.length : Int) == 5) = false := by simp; omega
            clear hse hO h2
            go_wp2
            go_ret
            exact ⟨rfl, hBf⟩
      · by_cases h13 : K < 13
        · have d13 : decide ((K : Int) < 13) = true := decide_eq_true (by omega)
          obtain ⟨ts, hts, hse⟩ := ends_at K (by omega) true
          rw [decide_eq_true h13] at hse
          have hcell := word_cell w1 K (by omega)
          have hX := (ends_words K).2
          have hXl := srcL_len K (by omega) true
          obtain ⟨WK, hWK⟩ : ∃ WK, WK = ba (wordsL[(K : Nat)]?.getD []) := ⟨_, rfl⟩
          rw [← hWK] at hcell hX
          have hwk : WK.size < 1000 := by rw [hWK, ba_size]; exact words_len _ (by omega)
          clear hWK
          obtain ⟨W1, hW1⟩ : ∃ W1, W1 = w1.alloc (.cells #[.string ⟨#[97]⟩, .string ⟨#[49]⟩, .string ⟨#[50, 46, 53]⟩, .string ⟨#[34, 115, 34]⟩, .string ⟨#[96, 114, 96]⟩, .string ⟨#[98, 114, 101, 97, 107]⟩, .string ⟨#[99, 111, 110, 116, 105, 110, 117, 101]⟩, .string ⟨#[114, 101, 116, 117, 114, 110]⟩, .string ⟨#[43, 43]⟩, .string ⟨#[45, 45]⟩, .string ⟨#[41]⟩, .string ⟨#[93]⟩, .string ⟨#[125]⟩, .string ⟨#[102, 117, 110, 99]⟩, .string ⟨#[105, 102]⟩, .string ⟨#[43]⟩, .string ⟨#[40]⟩, .string ⟨#[91]⟩, .string ⟨#[123]⟩, .string ⟨#[44]⟩, .string ⟨#[46]⟩, .string ⟨#[58, 61]⟩, .string ⟨#[61]⟩, .string ⟨#[58]⟩, .string ⟨#[126]⟩, .string ⟨#[101, 108, 115, 101]⟩, .string ⟨#[114, 97, 110, 103, 101]⟩, .string ⟨#[38, 94, 61]⟩] 9) := ⟨_, rfl⟩
          rw [← hW1] at hcell
          have hbW1 : Below w1.heap.size w1 W1 := by rw [hW1]; exact (Below.refl _ _).alloc (Nat.le_refl _) _
          obtain ⟨cap, W2, h1, h2, h3⟩ := there_back W1 (WK ++ { data := #[32, 47, 42, 32, 120, 10, 32, 42, 47, 32] } ++ { data := #[10, 98] })
          have hB12 := bthen hB hbW1
          have hB22 := bthen hB12 h2
          have hsz : (WK ++ { data := #[32, 47, 42, 32, 120, 10, 32, 42, 47, 32] } ++ { data := #[10, 98] }).size < 900000000 := by rw [hX, ba_size]; omega
          have kS : Hid _ := Scan_any W2 (WK ++ { data := #[32, 47, 42, 32, 120, 10, 32, 42, 47, 32] } ++ { data := #[10, 98] }) _ h3 (hG.next hB22) (by have := hB22.size; omega) hsz (.good ts) (by rw [hX, ba_toList]; exact hts)
          clear hts hX hXl h3
          replace h1 : Hid _ := h1
          replace h2 : Hid _ := h2
          replace hsz : Hid _ := hsz
          replace hse : Hid _ := hse
          replace hB12 : Hid _ := hB12
          replace hB22 : Hid _ := hB22
          go_upto_region 3 with fail
          rw [← hW1]
          clear hW1
          generalize w1.heap.size = G1 at *
          go_upto_region 8 with fail
          go_wp2_with fail
          rw [h1.out]
          simp only [Result.andThen]
          rw [Oper.upon_value]
          generalize WK ++ { data := #[32, 47, 42, 32, 120, 10, 32, 42, 47, 32] } ++ { data := #[10, 98] } = XX at *
          replace h1 : Hid _ := h1
          go_wp2_with fail
          refine Calls.mono kS.out ?_
          rintro e w3 ⟨⟨a, l, c, rfl, hO⟩, hb3⟩
          clear kS h1
          have hBf := bthen hB22.out hb3
          replace hse := hse.out
          by_cases h5 : ts.length = 5
          · obtain ⟨t0, t1, t2, t3, t4, rfl⟩ : ∃ t0 t1 t2 t3 t4, ts = [t0, t1, t2, t3, t4] := by
              match ts, h5 with
              | [t0, t1, t2, t3, t4], _ => exact ⟨t0, t1, t2, t3, t4, rfl⟩
            obtain ⟨g, cap', e, _, _⟩ := hO.form (by simp)
            cases e
            have q3 : w3.cell? ⟨g, 3, none⟩ = some (.int .i64 t1.kind) := hO.cellAt 3 (by simp)
            have q4 : w3.cell? ⟨g, 4, none⟩ = some (.string t1.text) := hO.cellAt 4 (by simp)
            have hse' : (decide (t1.kind = 7) && (t1.text.toList == [10])) = true := by rw [ByteArray.toList_eq]; exact hse
            clear hse hO h2 h5
            obtain ⟨k1, s1, a1⟩ := t1
            simp only at q3 q4 hse'
            obtain ⟨h7, h8⟩ := Bool.and_eq_true_iff.1 hse'
            have h9 : k1 = 7 := of_decide_eq_true h7
            subst h9
            clear hse' h7
            go_wp2
            go_ret
            exact ⟨rfl, hBf⟩
          · have hl : l = ts.length := by
              rcases hO.2 with ⟨e, e2⟩ | ⟨g2, cap2, cur, e, _⟩
              · cases e; exact e2.symm
              · cases e; rfl
            subst hl
            have d5 : ((ts.length : Int) == 5) = false := by simp; omega
            have hse' : false = true := by
              rw [← hse]
              unfold semiB
              split
              · simp at h5
              · rfl
            cases hse'
        · have d13 : decide ((K : Int) < 13) = false := decide_eq_false (by omega)
          obtain ⟨ts, hts, hse⟩ := ends_at K (by omega) true
          rw [decide_eq_false h13] at hse
          have hcell := word_cell w1 K (by omega)
          have hX := (ends_words K).2
          have hXl := srcL_len K (by omega) true
          obtain ⟨WK, hWK⟩ : ∃ WK, WK = ba (wordsL[(K : Nat)]?.getD []) := ⟨_, rfl⟩
          rw [← hWK] at hcell hX
          have hwk : WK.size < 1000 := by rw [hWK, ba_size]; exact words_len _ (by omega)
          clear hWK
          obtain ⟨W1, hW1⟩ : ∃ W1, W1 = w1.alloc (.cells #[.string ⟨#[97]⟩, .string ⟨#[49]⟩, .string ⟨#[50, 46, 53]⟩, .string ⟨#[34, 115, 34]⟩, .string ⟨#[96, 114, 96]⟩, .string ⟨#[98, 114, 101, 97, 107]⟩, .string ⟨#[99, 111, 110, 116, 105, 110, 117, 101]⟩, .string ⟨#[114, 101, 116, 117, 114, 110]⟩, .string ⟨#[43, 43]⟩, .string ⟨#[45, 45]⟩, .string ⟨#[41]⟩, .string ⟨#[93]⟩, .string ⟨#[125]⟩, .string ⟨#[102, 117, 110, 99]⟩, .string ⟨#[105, 102]⟩, .string ⟨#[43]⟩, .string ⟨#[40]⟩, .string ⟨#[91]⟩, .string ⟨#[123]⟩, .string ⟨#[44]⟩, .string ⟨#[46]⟩, .string ⟨#[58, 61]⟩, .string ⟨#[61]⟩, .string ⟨#[58]⟩, .string ⟨#[126]⟩, .string ⟨#[101, 108, 115, 101]⟩, .string ⟨#[114, 97, 110, 103, 101]⟩, .string ⟨#[38, 94, 61]⟩] 9) := ⟨_, rfl⟩
          rw [← hW1] at hcell
          have hbW1 : Below w1.heap.size w1 W1 := by rw [hW1]; exact (Below.refl _ _).alloc (Nat.le_refl _) _
          obtain ⟨cap, W2, h1, h2, h3⟩ := there_back W1 (WK ++ { data := #[32, 47, 42, 32, 120, 10, 32, 42, 47, 32] } ++ { data := #[10, 98] })
          have hB12 := bthen hB hbW1
          have hB22 := bthen hB12 h2
          have hsz : (WK ++ { data := #[32, 47, 42, 32, 120, 10, 32, 42, 47, 32] } ++ { data := #[10, 98] }).size < 900000000 := by rw [hX, ba_size]; omega
          have kS : Hid _ := Scan_any W2 (WK ++ { data := #[32, 47, 42, 32, 120, 10, 32, 42, 47, 32] } ++ { data := #[10, 98] }) _ h3 (hG.next hB22) (by have := hB22.size; omega) hsz (.good ts) (by rw [hX, ba_toList]; exact hts)
          clear hts hX hXl h3
          replace h1 : Hid _ := h1
          replace h2 : Hid _ := h2
          replace hsz : Hid _ := hsz
          replace hse : Hid _ := hse
          replace hB12 : Hid _ := hB12
          replace hB22 : Hid _ := hB22
          go_upto_region 3 with fail
          rw [← hW1]
          clear hW1
          generalize w1.heap.size = G1 at *
          go_upto_region 8 with fail
          go_wp2_with fail
          rw [h1.out]
          simp only [Result.andThen]
          rw [Oper.upon_value]
          generalize WK ++ { data := #[32, 47, 42, 32, 120, 10, 32, 42, 47, 32] } ++ { data := #[10, 98] } = XX at *
          replace h1 : Hid _ := h1
          go_wp2_with fail
          refine Calls.mono kS.out ?_
          rintro e w3 ⟨⟨a, l, c, rfl, hO⟩, hb3⟩
          clear kS h1
          have hBf := bthen hB22.out hb3
          replace hse := hse.out
          by_cases h5 : ts.length = 5
          · obtain ⟨t0, t1, t2, t3, t4, rfl⟩ : ∃ t0 t1 t2 t3 t4, ts = [t0, t1, t2, t3, t4] := by
              match ts, h5 with
              | [t0, t1, t2, t3, t4], _ => exact ⟨t0, t1, t2, t3, t4, rfl⟩
            obtain ⟨g, cap', e, _, _⟩ := hO.form (by simp)
            cases e
            have q3 : w3.cell? ⟨g, 3, none⟩ = some (.int .i64 t1.kind) := hO.cellAt 3 (by simp)
            have q4 : w3.cell? ⟨g, 4, none⟩ = some (.string t1.text) := hO.cellAt 4 (by simp)
            have hse' : (decide (t1.kind = 7) && (t1.text.toList == [10])) = false := by rw [ByteArray.toList_eq]; exact hse
            clear hse hO h2 h5
            obtain ⟨k1, s1, a1⟩ := t1
            simp only at q3 q4 hse'
            by_cases h7 : k1 = 7
            · subst h7
              rw [decide_eq_true rfl, Bool.true_and] at hse'
              go_wp2
              go_ret
              exact ⟨rfl, hBf⟩
            · have d7 : (k1 == 7) = false := by simp [h7]
              clear hse'
              go_wp2
              go_ret
              exact ⟨rfl, hBf⟩
          · have hl : l = ts.length := by
              rcases hO.2 with ⟨e, e2⟩ | ⟨g2, cap2, cur, e, _⟩
              · cases e; exact e2.symm
              · cases e; rfl
            subst hl
            have d5 : ((ts.length : Int) == 5) = false := by simp; omega
            clear hse hO h2
            go_wp2
            go_ret
            exact ⟨rfl, hBf⟩
end Go.Proofs.YtffggadmpdmbdaaDoor
