/- scan: names, numbers, operators, lines, comments. -/
import Derived.Test.YtfbacidpjpghiaaGreatDoorScm
import Derived.Test.YtfbacidpjpghiaaGreatDoorSlam
import Derived.Lib.QuoteLoop
import Derived.RegionTactic
import Derived.Deep.RegionWith
import Derived.Deep.RegionLaw
import Derived.Deep.CutRange
import Derived.Deep.Cut
import Derived.Deep.LoopGhost
import Derived.Deep.RegionHeld3
namespace Go.Proofs.YtfbacidpjpghiaaGreatDoor
open Go.RowKit
attribute [local go_sem ↓] Go.wp_at_zero Go.wp_at_succ
theorem toList_extract (s : ByteArray) (a b : Nat) : (s.extract a b).toList = (s.toList.take b).drop a := by
  rw [ByteArray.toList_eq, ByteArray.toList_eq, ByteArray.data_extract, Array.toList_extract, List.extract_eq_take_drop, ← List.drop_take]
theorem toList_take (s : ByteArray) (b : Nat) : (s.extract 0 b).toList = s.toList.take b := by rw [toList_extract, List.drop_zero]
theorem toList_drop (s : ByteArray) (a : Nat) : (s.extract a s.size).toList = s.toList.drop a := by
  rw [toList_extract, List.take_of_length_le (by rw [toList_len]; exact Nat.le_refl _)]
/-- The byte at a place, -1 behind the end. -/
def byteAt (l : List UInt8) (k : Nat) : Int := match l.drop k with
  | [] => -1
  | c :: _ => (c.toNat : Int)
theorem byteAt_lt (s : ByteArray) {k : Nat} (h : k < s.size) : byteAt s.toList k = ((s[k]'h).toNat : Int) := by
  unfold byteAt
  rw [drop_at s h]
theorem byteAt_ge (s : ByteArray) {k : Nat} (h : s.size ≤ k) : byteAt s.toList k = -1 := by
  unfold byteAt
  rw [drop_end s h]
theorem spanL_len (p : Int → Bool) (s : ByteArray) : spanL p s.toList ≤ s.size := by rw [← toList_len]; exact spanL_le _ _
theorem spanL_drop (p : Int → Bool) (s : ByteArray) (k : Nat) (h : k ≤ s.size) : k + spanL p (s.toList.drop k) ≤ s.size := by
  have := spanL_le p (s.toList.drop k)
  rw [List.length_drop, toList_len] at this
  omega
def nameM (l : List UInt8) : Int × Nat := (if wordB (l.take (spanL inNameB l)) then 6 else 1, spanL inNameB l)
set_option maxRecDepth 20000 in
set_option maxHeartbeats 2000000 in
theorem measureName_any (s : ByteArray) (w : World) (hs : s.size < 9223372036854775807) : Calls Tryz.prog 73 #[.string s] w fun e w' => e = .returned (.tuple #[.int .i64 (nameM s.toList).1, .int .i64 (nameM s.toList).2]) ∧ w' = w := by
  have k1 : Hid _ := span_inName s w hs
  have hle := spanL_len inNameB s
  have hM : Hid (nameM s.toList = (if wordB (s.toList.take (spanL inNameB s.toList)) then 6 else 1, spanL inNameB s.toList)) := rfl
  generalize spanL inNameB s.toList = n at *
  have k2 : Hid _ := fun w => Word_any (s.extract 0 n) w
  rw [toList_take] at k2
  go_enter Tryz.func73, Tryz.ntmps73
  go_wp2_with fail
  refine Calls.mono k1.out ?_
  rintro e w1 ⟨rfl, rfl⟩
  go_wp2_with fail
  refine Calls.mono (k2.out _) ?_
  rintro e w2 ⟨rfl, rfl⟩
  cases hb : wordB (s.toList.take n) with
  | true =>
    go_wp2
    exact bodyPost_ret (v := .tuple #[.int .i64 6, .int .i64 n]) (by simp [results, Tryz.results73, go_sem]) rfl ⟨by rw [hM.out, hb]; rfl, rfl⟩
  | false =>
    go_wp2
    exact bodyPost_ret (v := .tuple #[.int .i64 1, .int .i64 n]) (by simp [results, Tryz.results73, go_sem]) rfl ⟨by rw [hM.out, hb]; rfl, rfl⟩
/-- The longest operator. -/
def opM (l : List UInt8) : Nat := if 3 ≤ l.length ∧ opB (l.take 3) = true then 3 else if 2 ≤ l.length ∧ opB (l.take 2) = true then 2 else if 1 ≤ l.length ∧ opB (l.take 1) = true then 1 else 0
def digitsM (p : Int → Bool) (l : List UInt8) : Nat × Nat × Bool := if byteAt l (spanL p l) = 46 then (spanL p l + 1 + spanL p (l.drop (spanL p l + 1)), spanL p l + spanL p (l.drop (spanL p l + 1)), true) else (spanL p l, spanL p l, false)
set_option maxRecDepth 20000 in
set_option maxHeartbeats 2000000 in
theorem digits_isDigit (s : ByteArray) (w : World) (hs : s.size < 4611686018427387904) : Calls Tryz.prog 114 #[.string s, .func (.func 74) #[] #[]] w fun e w' => e = .returned (.tuple #[.int .i64 (digitsM isDigitB s.toList).1, .int .i64 (digitsM isDigitB s.toList).2.1, .bool (digitsM isDigitB s.toList).2.2]) ∧ w' = w := by
  have k1 : Hid _ := span_isDigit s w (by omega)
  have hle := spanL_len isDigitB s
  have hM : Hid (digitsM isDigitB s.toList = if byteAt s.toList (spanL isDigitB s.toList) = 46 then (spanL isDigitB s.toList + 1 + spanL isDigitB (s.toList.drop (spanL isDigitB s.toList + 1)), spanL isDigitB s.toList + spanL isDigitB (s.toList.drop (spanL isDigitB s.toList + 1)), true) else (spanL isDigitB s.toList, spanL isDigitB s.toList, false)) := rfl
  generalize spanL isDigitB s.toList = n at *
  go_enter Tryz.func114, Tryz.ntmps114
  go_wp2_with fail
  refine Calls.mono k1.out ?_
  rintro e w1 ⟨rfl, rfl⟩
  by_cases hn : n < s.size
  · have d1 : ((n : Int) == s.size) = false := by simp; omega
    have hb := byteAt_lt s hn
    have hm := spanL_drop isDigitB s (n + 1) (by omega)
    have k2 : Hid _ := fun w => span_isDigit (s.extract (n + 1) s.size) w (by rw [ByteArray.size_extract]; omega)
    rw [toList_drop] at k2
    by_cases hd : ((s[n]'hn).toNat : Int) = 46
    · rw [hd] at hb
      rw [hb, if_pos rfl] at hM
      generalize spanL isDigitB (s.toList.drop (n + 1)) = m at *
      have d2 : (((s[n]'hn).toNat : Int) != 46) = false := by simp [hd]
      clear hb
      go_wp2_with fail
      refine Calls.mono (k2.out _) ?_
      rintro e w2 ⟨rfl, rfl⟩
      go_wp2
      exact bodyPost_ret (v := .tuple #[.int .i64 ((n + 1 + m : Nat) : Int), .int .i64 ((n + m : Nat) : Int), .bool true]) (by simp [results, Tryz.results114, go_sem]) rfl ⟨by rw [hM.out], rfl⟩
    · have d2 : (((s[n]'hn).toNat : Int) != 46) = true := by simp [hd]
      rw [hb, if_neg hd] at hM
      clear hb k2
      go_wp2
      exact bodyPost_ret (v := .tuple #[.int .i64 n, .int .i64 n, .bool false]) (by simp [results, Tryz.results114, go_sem]) rfl ⟨by rw [hM.out], rfl⟩
  · have d1 : ((n : Int) == s.size) = true := by simp; omega
    rw [byteAt_ge s (by omega), if_neg (by decide)] at hM
    go_wp2
    exact bodyPost_ret (v := .tuple #[.int .i64 n, .int .i64 n, .bool false]) (by simp [results, Tryz.results114, go_sem]) rfl ⟨by rw [hM.out], rfl⟩
set_option maxRecDepth 20000 in
set_option maxHeartbeats 2000000 in
theorem digits_isHex (s : ByteArray) (w : World) (hs : s.size < 4611686018427387904) : Calls Tryz.prog 114 #[.string s, .func (.func 116) #[] #[]] w fun e w' => e = .returned (.tuple #[.int .i64 (digitsM isHexB s.toList).1, .int .i64 (digitsM isHexB s.toList).2.1, .bool (digitsM isHexB s.toList).2.2]) ∧ w' = w := by
  have k1 : Hid _ := span_isHex s w (by omega)
  have hle := spanL_len isHexB s
  have hM : Hid (digitsM isHexB s.toList = if byteAt s.toList (spanL isHexB s.toList) = 46 then (spanL isHexB s.toList + 1 + spanL isHexB (s.toList.drop (spanL isHexB s.toList + 1)), spanL isHexB s.toList + spanL isHexB (s.toList.drop (spanL isHexB s.toList + 1)), true) else (spanL isHexB s.toList, spanL isHexB s.toList, false)) := rfl
  generalize spanL isHexB s.toList = n at *
  go_enter Tryz.func114, Tryz.ntmps114
  go_wp2_with fail
  refine Calls.mono k1.out ?_
  rintro e w1 ⟨rfl, rfl⟩
  by_cases hn : n < s.size
  · have d1 : ((n : Int) == s.size) = false := by simp; omega
    have hb := byteAt_lt s hn
    have hm := spanL_drop isHexB s (n + 1) (by omega)
    have k2 : Hid _ := fun w => span_isHex (s.extract (n + 1) s.size) w (by rw [ByteArray.size_extract]; omega)
    rw [toList_drop] at k2
    by_cases hd : ((s[n]'hn).toNat : Int) = 46
    · rw [hd] at hb
      rw [hb, if_pos rfl] at hM
      generalize spanL isHexB (s.toList.drop (n + 1)) = m at *
      have d2 : (((s[n]'hn).toNat : Int) != 46) = false := by simp [hd]
      clear hb
      go_wp2_with fail
      refine Calls.mono (k2.out _) ?_
      rintro e w2 ⟨rfl, rfl⟩
      go_wp2
      exact bodyPost_ret (v := .tuple #[.int .i64 ((n + 1 + m : Nat) : Int), .int .i64 ((n + m : Nat) : Int), .bool true]) (by simp [results, Tryz.results114, go_sem]) rfl ⟨by rw [hM.out], rfl⟩
    · have d2 : (((s[n]'hn).toNat : Int) != 46) = true := by simp [hd]
      rw [hb, if_neg hd] at hM
      clear hb k2
      go_wp2
      exact bodyPost_ret (v := .tuple #[.int .i64 n, .int .i64 n, .bool false]) (by simp [results, Tryz.results114, go_sem]) rfl ⟨by rw [hM.out], rfl⟩
  · have d1 : ((n : Int) == s.size) = true := by simp; omega
    rw [byteAt_ge s (by omega), if_neg (by decide)] at hM
    go_wp2
    exact bodyPost_ret (v := .tuple #[.int .i64 n, .int .i64 n, .bool false]) (by simp [results, Tryz.results114, go_sem]) rfl ⟨by rw [hM.out], rfl⟩
end Go.Proofs.YtfbacidpjpghiaaGreatDoor
namespace Go.Proofs.YtfbacidpjpghiaaGreatDoor
open Go.RowKit
attribute [local go_sem ↓] Go.wp_at_zero Go.wp_at_succ
/-- An exponent's digits: not above 999. -/
def fitsGo (v : Nat) : List UInt8 → Bool
  | [] => true
  | c :: r => if 999 < 10 * v + (c.toNat + 208) % 256 then false else fitsGo (10 * v + (c.toNat + 208) % 256) r
set_option maxRecDepth 20000 in
set_option maxHeartbeats 4000000 in
theorem fits_any (s : ByteArray) (w : World) (hs : s.size < 4611686018427387904) : Calls Tryz.prog 127 #[.string s] w fun e w' => e = .returned (.bool (fitsGo 0 s.toList)) ∧ w' = w := by
  obtain ⟨S, hS⟩ : ∃ S, S = fitsGo 0 s.toList := ⟨_, rfl⟩
  rw [← hS]
  go_enter Tryz.func127, Tryz.ntmps127
  go_wp2
  go_loopw [3, 7] (fun v n wr => ∃ k x : Nat, n = .int .i64 k ∧ v = .int .i64 x ∧ x ≤ 999 ∧ k ≤ s.size ∧ Hid (S = fitsGo x (s.toList.drop k)) ∧ wr = w) (fun _ n _ => (s.size - intOf n).toNat)
  case atStart => exact ⟨0, 0, rfl, rfl, by decide, Nat.zero_le _, by rw [List.drop_zero]; exact hS, rfl⟩
  case round =>
    obtain ⟨k, x, rfl, rfl, hx, hk, hI, rfl⟩ := hrel
    by_cases hlt : k < s.size
    · have d1 : decide ((k : Int) < s.size) = true := decide_eq_true (by omega)
      have hI' := hI.out
      rw [drop_at s hlt] at hI'
      unfold fitsGo at hI'
      have hc256 : (s[k]'hlt).toNat < 256 := UInt8.toNat_lt _
      have hw1 : IntKind.u8.wrap (((s[k]'hlt).toNat : Int) - 48) = ((((s[k]'hlt).toNat + 208) % 256 : Nat) : Int) := by rw [IntKind.wrap_u8]; omega
      have hd256 : ((s[k]'hlt).toNat + 208) % 256 < 256 := Nat.mod_lt _ (by decide)
      generalize hD : ((s[k]'hlt).toNat + 208) % 256 = D at *
      replace hD : Hid _ := hD
      have hw2 : IntKind.i64.wrap (10 * (x : Int) + (D : Int)) = 10 * (x : Int) + (D : Int) := by rw [IntKind.wrap_i64]; omega
      by_cases hg : 999 < 10 * x + D
      · rw [if_pos hg] at hI'
        have d2 : decide (10 * (x : Int) + (D : Int) > 999) = true := decide_eq_true (by omega)
        go_wp2
        go_ret
        exact ⟨by rw [hI']; rfl, rfl⟩
      · rw [if_neg hg] at hI'
        have d2 : decide (10 * (x : Int) + (D : Int) > 999) = false := decide_eq_false (by omega)
        go_wp2
        go_roundw
        case rel => exact ⟨k + 1, 10 * x + D, by go_num, by go_num, by omega, by omega, hI', by first | trivial | rfl⟩
        case measure => simp [intOf]; omega
    · have d1 : decide ((k : Int) < s.size) = false := decide_eq_false (by omega)
      have hI' := hI.out
      rw [drop_end s (by omega)] at hI'
      go_wp2
      go_ret
      exact ⟨by rw [hI']; rfl, rfl⟩
/-- Where an exponent that begins at n ends, 0 if it is none. -/
def expAt (l : List UInt8) (n : Nat) : Nat := if byteAt l (n + 1) = 43 ∨ byteAt l (n + 1) = 45 then n + 1 + 1 else n + 1
def expM (l : List UInt8) (n : Nat) : Nat := if spanL isDigitB (l.drop (expAt l n)) = 0 ∨ fitsGo 0 ((l.take (expAt l n + spanL isDigitB (l.drop (expAt l n)))).drop (expAt l n)) = false then 0 else expAt l n + spanL isDigitB (l.drop (expAt l n))
theorem exp_tail (s : ByteArray) (n a : Nat) (ha : a = expAt s.toList n) (_hle : a ≤ s.size) (w : World) (hs : s.size < 4611686018427387904) :
    (Calls Tryz.prog 92 #[.string (s.extract a s.size), .func (.func 74) #[] #[]] w fun e w' => e = .returned (.int .i64 (spanL isDigitB (s.toList.drop a))) ∧ w' = w) ∧
    (Calls Tryz.prog 127 #[.string (s.extract a (a + spanL isDigitB (s.toList.drop a)))] w fun e w' => e = .returned (.bool (fitsGo 0 ((s.toList.take (a + spanL isDigitB (s.toList.drop a))).drop a))) ∧ w' = w) := by
  constructor
  · have := span_isDigit (s.extract a s.size) w (by rw [ByteArray.size_extract]; omega)
    rw [toList_drop] at this
    exact this
  · have := fits_any (s.extract a (a + spanL isDigitB (s.toList.drop a))) w (by rw [ByteArray.size_extract]; omega)
    rw [toList_extract] at this
    exact this
set_option maxRecDepth 20000 in
set_option maxHeartbeats 4000000 in
theorem withExponent_any (s : ByteArray) (n : Nat) (w : World) (hn : n < s.size) (hs : s.size < 4611686018427387904) : Calls Tryz.prog 115 #[.string s, .int .i64 n] w fun e w' => e = .returned (.tuple #[.int .i64 3, .int .i64 (expM s.toList n)]) ∧ w' = w := by
  by_cases h1 : n + 1 < s.size
  · have d1 : decide ((n : Int) + 1 < s.size) = true := decide_eq_true (by omega)
    have hb := byteAt_lt s h1
    by_cases hp : ((s[n + 1]'h1).toNat : Int) = 43
    · have d2 : (((s[n + 1]'h1).toNat : Int) == 43) = true := by simp [hp]
      have hA : Hid (expAt s.toList n = n + 1 + 1) := by show _ = _; unfold expAt; rw [hb, if_pos (.inl hp)]
      clear hb
      go_enter Tryz.func115, Tryz.ntmps115
      have hadd := spanL_drop isDigitB s (n + 1 + 1) (by omega)
      obtain ⟨k1, k2⟩ := exp_tail s n (n + 1 + 1) (by rw [hA.out]) (by omega) w hs
      have hM : Hid (expM s.toList n = if spanL isDigitB (s.toList.drop (n + 1 + 1)) = 0 ∨ fitsGo 0 ((s.toList.take (n + 1 + 1 + spanL isDigitB (s.toList.drop (n + 1 + 1)))).drop (n + 1 + 1)) = false then 0 else n + 1 + 1 + spanL isDigitB (s.toList.drop (n + 1 + 1))) := by show _ = _; unfold expM; rw [hA.out]
      replace k1 : Hid _ := k1
      replace k2 : Hid _ := k2
      generalize fitsGo 0 ((s.toList.take (n + 1 + 1 + spanL isDigitB (s.toList.drop (n + 1 + 1)))).drop (n + 1 + 1)) = F at *
      generalize spanL isDigitB (s.toList.drop (n + 1 + 1)) = m at *
      go_wp2_with fail
      refine Calls.mono k1.out ?_
      rintro e w1 ⟨rfl, rfl⟩
      by_cases hm : m = 0
      · subst hm
        rw [if_pos (.inl rfl)] at hM
        go_wp2
        exact bodyPost_ret (v := .tuple #[.int .i64 3, .int .i64 0]) (by simp [results, Tryz.results115, go_sem]) rfl ⟨by rw [hM.out]; try rfl, rfl⟩
      · have d9 : ((m : Int) == 0) = false := by simpa using hm
        go_wp2_with fail
        refine Calls.mono k2.out ?_
        rintro e w2 ⟨rfl, rfl⟩
        cases F with
        | true =>
          rw [if_neg (by simp [hm])] at hM
          go_wp2
          exact bodyPost_ret (v := .tuple #[.int .i64 3, .int .i64 ((n + 1 + 1 + m : Nat) : Int)]) (by simp [results, Tryz.results115, go_sem]) rfl ⟨by rw [hM.out]; try rfl, rfl⟩
        | false =>
          rw [if_pos (.inr rfl)] at hM
          go_wp2
          exact bodyPost_ret (v := .tuple #[.int .i64 3, .int .i64 0]) (by simp [results, Tryz.results115, go_sem]) rfl ⟨by rw [hM.out]; try rfl, rfl⟩
    · have d2 : (((s[n + 1]'h1).toNat : Int) == 43) = false := by simp [hp]
      by_cases hq : ((s[n + 1]'h1).toNat : Int) = 45
      · have d3 : (((s[n + 1]'h1).toNat : Int) == 45) = true := by simp [hq]
        have hA : Hid (expAt s.toList n = n + 1 + 1) := by show _ = _; unfold expAt; rw [hb, if_pos (.inr hq)]
        clear hb
        go_enter Tryz.func115, Tryz.ntmps115
        have hadd := spanL_drop isDigitB s (n + 1 + 1) (by omega)
        obtain ⟨k1, k2⟩ := exp_tail s n (n + 1 + 1) (by rw [hA.out]) (by omega) w hs
        have hM : Hid (expM s.toList n = if spanL isDigitB (s.toList.drop (n + 1 + 1)) = 0 ∨ fitsGo 0 ((s.toList.take (n + 1 + 1 + spanL isDigitB (s.toList.drop (n + 1 + 1)))).drop (n + 1 + 1)) = false then 0 else n + 1 + 1 + spanL isDigitB (s.toList.drop (n + 1 + 1))) := by show _ = _; unfold expM; rw [hA.out]
        replace k1 : Hid _ := k1
        replace k2 : Hid _ := k2
        generalize fitsGo 0 ((s.toList.take (n + 1 + 1 + spanL isDigitB (s.toList.drop (n + 1 + 1)))).drop (n + 1 + 1)) = F at *
        generalize spanL isDigitB (s.toList.drop (n + 1 + 1)) = m at *
        go_wp2_with fail
        refine Calls.mono k1.out ?_
        rintro e w1 ⟨rfl, rfl⟩
        by_cases hm : m = 0
        · subst hm
          rw [if_pos (.inl rfl)] at hM
          go_wp2
          exact bodyPost_ret (v := .tuple #[.int .i64 3, .int .i64 0]) (by simp [results, Tryz.results115, go_sem]) rfl ⟨by rw [hM.out]; try rfl, rfl⟩
        · have d9 : ((m : Int) == 0) = false := by simpa using hm
          go_wp2_with fail
          refine Calls.mono k2.out ?_
          rintro e w2 ⟨rfl, rfl⟩
          cases F with
          | true =>
            rw [if_neg (by simp [hm])] at hM
            go_wp2
            exact bodyPost_ret (v := .tuple #[.int .i64 3, .int .i64 ((n + 1 + 1 + m : Nat) : Int)]) (by simp [results, Tryz.results115, go_sem]) rfl ⟨by rw [hM.out]; try rfl, rfl⟩
          | false =>
            rw [if_pos (.inr rfl)] at hM
            go_wp2
            exact bodyPost_ret (v := .tuple #[.int .i64 3, .int .i64 0]) (by simp [results, Tryz.results115, go_sem]) rfl ⟨by rw [hM.out]; try rfl, rfl⟩
      · have d3 : (((s[n + 1]'h1).toNat : Int) == 45) = false := by simp [hq]
        have hA : Hid (expAt s.toList n = n + 1) := by show _ = _; unfold expAt; rw [hb, if_neg (by omega)]
        clear hb
        go_enter Tryz.func115, Tryz.ntmps115
        have hadd := spanL_drop isDigitB s (n + 1) (by omega)
        obtain ⟨k1, k2⟩ := exp_tail s n (n + 1) (by rw [hA.out]) (by omega) w hs
        have hM : Hid (expM s.toList n = if spanL isDigitB (s.toList.drop (n + 1)) = 0 ∨ fitsGo 0 ((s.toList.take (n + 1 + spanL isDigitB (s.toList.drop (n + 1)))).drop (n + 1)) = false then 0 else n + 1 + spanL isDigitB (s.toList.drop (n + 1))) := by show _ = _; unfold expM; rw [hA.out]
        replace k1 : Hid _ := k1
        replace k2 : Hid _ := k2
        generalize fitsGo 0 ((s.toList.take (n + 1 + spanL isDigitB (s.toList.drop (n + 1)))).drop (n + 1)) = F at *
        generalize spanL isDigitB (s.toList.drop (n + 1)) = m at *
        go_wp2_with fail
        refine Calls.mono k1.out ?_
        rintro e w1 ⟨rfl, rfl⟩
        by_cases hm : m = 0
        · subst hm
          rw [if_pos (.inl rfl)] at hM
          go_wp2
          exact bodyPost_ret (v := .tuple #[.int .i64 3, .int .i64 0]) (by simp [results, Tryz.results115, go_sem]) rfl ⟨by rw [hM.out]; try rfl, rfl⟩
        · have d9 : ((m : Int) == 0) = false := by simpa using hm
          go_wp2_with fail
          refine Calls.mono k2.out ?_
          rintro e w2 ⟨rfl, rfl⟩
          cases F with
          | true =>
            rw [if_neg (by simp [hm])] at hM
            go_wp2
            exact bodyPost_ret (v := .tuple #[.int .i64 3, .int .i64 ((n + 1 + m : Nat) : Int)]) (by simp [results, Tryz.results115, go_sem]) rfl ⟨by rw [hM.out]; try rfl, rfl⟩
          | false =>
            rw [if_pos (.inr rfl)] at hM
            go_wp2
            exact bodyPost_ret (v := .tuple #[.int .i64 3, .int .i64 0]) (by simp [results, Tryz.results115, go_sem]) rfl ⟨by rw [hM.out]; try rfl, rfl⟩
  · have d1 : decide ((n : Int) + 1 < s.size) = false := decide_eq_false (by omega)
    have hA : Hid (expAt s.toList n = n + 1) := by show _ = _; unfold expAt; rw [byteAt_ge s (by omega), if_neg (by decide)]
    go_enter Tryz.func115, Tryz.ntmps115
    have hadd := spanL_drop isDigitB s (n + 1) (by omega)
    obtain ⟨k1, k2⟩ := exp_tail s n (n + 1) (by rw [hA.out]) (by omega) w hs
    have hM : Hid (expM s.toList n = if spanL isDigitB (s.toList.drop (n + 1)) = 0 ∨ fitsGo 0 ((s.toList.take (n + 1 + spanL isDigitB (s.toList.drop (n + 1)))).drop (n + 1)) = false then 0 else n + 1 + spanL isDigitB (s.toList.drop (n + 1))) := by show _ = _; unfold expM; rw [hA.out]
    replace k1 : Hid _ := k1
    replace k2 : Hid _ := k2
    generalize fitsGo 0 ((s.toList.take (n + 1 + spanL isDigitB (s.toList.drop (n + 1)))).drop (n + 1)) = F at *
    generalize spanL isDigitB (s.toList.drop (n + 1)) = m at *
    go_wp2_with fail
    refine Calls.mono k1.out ?_
    rintro e w1 ⟨rfl, rfl⟩
    by_cases hm : m = 0
    · subst hm
      rw [if_pos (.inl rfl)] at hM
      go_wp2
      exact bodyPost_ret (v := .tuple #[.int .i64 3, .int .i64 0]) (by simp [results, Tryz.results115, go_sem]) rfl ⟨by rw [hM.out]; try rfl, rfl⟩
    · have d9 : ((m : Int) == 0) = false := by simpa using hm
      go_wp2_with fail
      refine Calls.mono k2.out ?_
      rintro e w2 ⟨rfl, rfl⟩
      cases F with
      | true =>
        rw [if_neg (by simp [hm])] at hM
        go_wp2
        exact bodyPost_ret (v := .tuple #[.int .i64 3, .int .i64 ((n + 1 + m : Nat) : Int)]) (by simp [results, Tryz.results115, go_sem]) rfl ⟨by rw [hM.out]; try rfl, rfl⟩
      | false =>
        rw [if_pos (.inr rfl)] at hM
        go_wp2
        exact bodyPost_ret (v := .tuple #[.int .i64 3, .int .i64 0]) (by simp [results, Tryz.results115, go_sem]) rfl ⟨by rw [hM.out]; try rfl, rfl⟩
/- Decimal numbers: kind and length. -/
def decimalM (l : List UInt8) : Int × Nat := if byteAt l (digitsM isDigitB l).1 = 101 ∨ byteAt l (digitsM isDigitB l).1 = 69 then (3, expM l (digitsM isDigitB l).1) else if (digitsM isDigitB l).2.2 = true then (3, (digitsM isDigitB l).1) else if 1 < (digitsM isDigitB l).2.1 ∧ byteAt l 0 = 48 then (2, 0) else (2, (digitsM isDigitB l).1)
theorem digitsM_le (p : Int → Bool) (s : ByteArray) : (digitsM p s.toList).1 ≤ s.size ∧ (digitsM p s.toList).2.1 ≤ s.size := by
  unfold digitsM
  have h1 := spanL_len p s
  split
  · rename_i h
    have h2 : spanL p s.toList < s.size := by
      by_cases hc : spanL p s.toList < s.size
      · exact hc
      · rw [byteAt_ge s (by omega)] at h
        omega
    have h3 := spanL_drop p s (spanL p s.toList + 1) (by omega)
    exact ⟨by show _ + 1 + _ ≤ _; omega, by show _ + _ ≤ _; omega⟩
  · exact ⟨h1, h1⟩
set_option maxRecDepth 20000 in
set_option maxHeartbeats 4000000 in
theorem measureDecimal_any (s : ByteArray) (w : World) (h0 : 0 < s.size) (hs : s.size < 4611686018427387904) : Calls Tryz.prog 104 #[.string s] w fun e w' => e = .returned (.tuple #[.int .i64 (decimalM s.toList).1, .int .i64 (decimalM s.toList).2]) ∧ w' = w := by
  have k1 : Hid _ := digits_isDigit s w hs
  obtain ⟨hl1, hl2⟩ := digitsM_le isDigitB s
  have hM : Hid (decimalM s.toList = if byteAt s.toList (digitsM isDigitB s.toList).1 = 101 ∨ byteAt s.toList (digitsM isDigitB s.toList).1 = 69 then (3, expM s.toList (digitsM isDigitB s.toList).1) else if (digitsM isDigitB s.toList).2.2 = true then (3, (digitsM isDigitB s.toList).1) else if 1 < (digitsM isDigitB s.toList).2.1 ∧ byteAt s.toList 0 = 48 then (2, 0) else (2, (digitsM isDigitB s.toList).1)) := rfl
  generalize (digitsM isDigitB s.toList).1 = n at *
  generalize (digitsM isDigitB s.toList).2.1 = d at *
  generalize (digitsM isDigitB s.toList).2.2 = dot at *
  have hz := byteAt_lt s h0
  go_enter Tryz.func104, Tryz.ntmps104
  go_wp2_with fail
  refine Calls.mono k1.out ?_
  rintro e w1 ⟨rfl, rfl⟩
  clear k1
  by_cases hn : n < s.size
  · have d1 : decide ((n : Int) < s.size) = true := decide_eq_true (by omega)
    have hb := byteAt_lt s hn
    have k2 : Hid _ := withExponent_any s n w1 hn hs
    by_cases h1 : ((s[n]'hn).toNat : Int) = 101
    · rw [hb, if_pos (.inl h1)] at hM
      have d2 : (((s[n]'hn).toNat : Int) == 101) = true := by simp [h1]
      clear hb hz
      go_wp2_with fail
      refine Calls.mono k2.out ?_
      rintro e w2 ⟨rfl, rfl⟩
      go_wp2
      exact bodyPost_ret (v := .tuple #[.int .i64 3, .int .i64 (expM s.toList n)]) (by simp [results, Tryz.results104, go_sem]) rfl ⟨by rw [hM.out]; try rfl, rfl⟩
    · have d2 : (((s[n]'hn).toNat : Int) == 101) = false := by simp [h1]
      by_cases h2 : ((s[n]'hn).toNat : Int) = 69
      · rw [hb, if_pos (.inr h2)] at hM
        have d3 : (((s[n]'hn).toNat : Int) == 69) = true := by simp [h2]
        clear hb hz
        go_wp2_with fail
        refine Calls.mono k2.out ?_
        rintro e w2 ⟨rfl, rfl⟩
        go_wp2
        exact bodyPost_ret (v := .tuple #[.int .i64 3, .int .i64 (expM s.toList n)]) (by simp [results, Tryz.results104, go_sem]) rfl ⟨by rw [hM.out]; try rfl, rfl⟩
      · have d3 : (((s[n]'hn).toNat : Int) == 69) = false := by simp [h2]
        rw [hb, if_neg (by omega)] at hM
        clear hb k2
        cases dot with
        | true =>
          rw [if_pos rfl] at hM
          go_wp2
          exact bodyPost_ret (v := .tuple #[.int .i64 3, .int .i64 n]) (by simp [results, Tryz.results104, go_sem]) rfl ⟨by rw [hM.out]; try rfl, rfl⟩
        | false =>
          rw [if_neg (by decide)] at hM
          by_cases h3 : 1 < d
          · have d4 : decide ((d : Int) > 1) = true := decide_eq_true (by omega)
            by_cases h4 : ((s[0]'h0).toNat : Int) = 48
            · have d5 : (((s[0]'h0).toNat : Int) == 48) = true := by simp [h4]
              rw [hz, if_pos ⟨h3, h4⟩] at hM
              clear hz
              go_wp2
              exact bodyPost_ret (v := .tuple #[.int .i64 2, .int .i64 0]) (by simp [results, Tryz.results104, go_sem]) rfl ⟨by rw [hM.out]; try rfl, rfl⟩
            · have d5 : (((s[0]'h0).toNat : Int) == 48) = false := by simp [h4]
              rw [hz, if_neg (fun h => h4 h.2)] at hM
              clear hz
              go_wp2
              exact bodyPost_ret (v := .tuple #[.int .i64 2, .int .i64 n]) (by simp [results, Tryz.results104, go_sem]) rfl ⟨by rw [hM.out]; try rfl, rfl⟩
          · have d4 : decide ((d : Int) > 1) = false := decide_eq_false (by omega)
            rw [if_neg (fun h => h3 h.1)] at hM
            clear hz
            go_wp2
            exact bodyPost_ret (v := .tuple #[.int .i64 2, .int .i64 n]) (by simp [results, Tryz.results104, go_sem]) rfl ⟨by rw [hM.out]; try rfl, rfl⟩
  · have d1 : decide ((n : Int) < s.size) = false := decide_eq_false (by omega)
    rw [byteAt_ge s (by omega), if_neg (by decide)] at hM
    cases dot with
    | true =>
      rw [if_pos rfl] at hM
      go_wp2
      exact bodyPost_ret (v := .tuple #[.int .i64 3, .int .i64 n]) (by simp [results, Tryz.results104, go_sem]) rfl ⟨by rw [hM.out]; try rfl, rfl⟩
    | false =>
      rw [if_neg (by decide)] at hM
      by_cases h3 : 1 < d
      · have d4 : decide ((d : Int) > 1) = true := decide_eq_true (by omega)
        by_cases h4 : ((s[0]'h0).toNat : Int) = 48
        · have d5 : (((s[0]'h0).toNat : Int) == 48) = true := by simp [h4]
          rw [hz, if_pos ⟨h3, h4⟩] at hM
          clear hz
          go_wp2
          exact bodyPost_ret (v := .tuple #[.int .i64 2, .int .i64 0]) (by simp [results, Tryz.results104, go_sem]) rfl ⟨by rw [hM.out]; try rfl, rfl⟩
        · have d5 : (((s[0]'h0).toNat : Int) == 48) = false := by simp [h4]
          rw [hz, if_neg (fun h => h4 h.2)] at hM
          clear hz
          go_wp2
          exact bodyPost_ret (v := .tuple #[.int .i64 2, .int .i64 n]) (by simp [results, Tryz.results104, go_sem]) rfl ⟨by rw [hM.out]; try rfl, rfl⟩
      · have d4 : decide ((d : Int) > 1) = false := decide_eq_false (by omega)
        rw [if_neg (fun h => h3 h.1)] at hM
        clear hz
        go_wp2
        exact bodyPost_ret (v := .tuple #[.int .i64 2, .int .i64 n]) (by simp [results, Tryz.results104, go_sem]) rfl ⟨by rw [hM.out]; try rfl, rfl⟩
def wholeM (p : Int → Bool) (l : List UInt8) : Nat := if spanL p (l.drop 2) = 0 then 0 else 2 + spanL p (l.drop 2)
set_option maxRecDepth 20000 in
set_option maxHeartbeats 4000000 in
theorem whole_isOctal (s : ByteArray) (w : World) (h2 : 2 ≤ s.size) (hs : s.size < 4611686018427387904) : Calls Tryz.prog 106 #[.string s, .func (.func 107) #[] #[]] w fun e w' => e = .returned (.tuple #[.int .i64 2, .int .i64 (wholeM isOctalB s.toList)]) ∧ w' = w := by
  have k1 : Hid _ := span_isOctal (s.extract 2 s.size) w (by rw [ByteArray.size_extract]; omega)
  rw [toList_drop] at k1
  have hle := spanL_drop isOctalB s 2 h2
  have hM : Hid (wholeM isOctalB s.toList = if spanL isOctalB (s.toList.drop 2) = 0 then 0 else 2 + spanL isOctalB (s.toList.drop 2)) := rfl
  generalize spanL isOctalB (s.toList.drop 2) = n at *
  go_enter Tryz.func106, Tryz.ntmps106
  go_wp2_with fail
  refine Calls.mono k1.out ?_
  rintro e w1 ⟨rfl, rfl⟩
  by_cases hn : n = 0
  · subst hn
    rw [if_pos rfl] at hM
    go_wp2
    exact bodyPost_ret (v := .tuple #[.int .i64 2, .int .i64 0]) (by simp [results, Tryz.results106, go_sem]) rfl ⟨by rw [hM.out]; try rfl, rfl⟩
  · have d1 : ((n : Int) == 0) = false := by simpa using hn
    rw [if_neg hn] at hM
    go_wp2
    exact bodyPost_ret (v := .tuple #[.int .i64 2, .int .i64 ((2 + n : Nat) : Int)]) (by simp [results, Tryz.results106, go_sem]) rfl ⟨by rw [hM.out]; try rfl, rfl⟩
set_option maxRecDepth 20000 in
set_option maxHeartbeats 4000000 in
theorem whole_isBinary (s : ByteArray) (w : World) (h2 : 2 ≤ s.size) (hs : s.size < 4611686018427387904) : Calls Tryz.prog 106 #[.string s, .func (.func 108) #[] #[]] w fun e w' => e = .returned (.tuple #[.int .i64 2, .int .i64 (wholeM isBinaryB s.toList)]) ∧ w' = w := by
  have k1 : Hid _ := span_isBinary (s.extract 2 s.size) w (by rw [ByteArray.size_extract]; omega)
  rw [toList_drop] at k1
  have hle := spanL_drop isBinaryB s 2 h2
  have hM : Hid (wholeM isBinaryB s.toList = if spanL isBinaryB (s.toList.drop 2) = 0 then 0 else 2 + spanL isBinaryB (s.toList.drop 2)) := rfl
  generalize spanL isBinaryB (s.toList.drop 2) = n at *
  go_enter Tryz.func106, Tryz.ntmps106
  go_wp2_with fail
  refine Calls.mono k1.out ?_
  rintro e w1 ⟨rfl, rfl⟩
  by_cases hn : n = 0
  · subst hn
    rw [if_pos rfl] at hM
    go_wp2
    exact bodyPost_ret (v := .tuple #[.int .i64 2, .int .i64 0]) (by simp [results, Tryz.results106, go_sem]) rfl ⟨by rw [hM.out]; try rfl, rfl⟩
  · have d1 : ((n : Int) == 0) = false := by simpa using hn
    rw [if_neg hn] at hM
    go_wp2
    exact bodyPost_ret (v := .tuple #[.int .i64 2, .int .i64 ((2 + n : Nat) : Int)]) (by simp [results, Tryz.results106, go_sem]) rfl ⟨by rw [hM.out]; try rfl, rfl⟩
end Go.Proofs.YtfbacidpjpghiaaGreatDoor
namespace Go.Proofs.YtfbacidpjpghiaaGreatDoor
open Go.RowKit
attribute [local go_sem ↓] Go.wp_at_zero Go.wp_at_succ
def hexM (l : List UInt8) : Int × Nat := if (digitsM isHexB (l.drop 2)).2.1 = 0 then (2, 0) else if byteAt l ((digitsM isHexB (l.drop 2)).1 + 2) = 112 ∨ byteAt l ((digitsM isHexB (l.drop 2)).1 + 2) = 80 then (3, expM l ((digitsM isHexB (l.drop 2)).1 + 2)) else if (digitsM isHexB (l.drop 2)).2.2 = true then (3, 0) else (2, (digitsM isHexB (l.drop 2)).1 + 2)
set_option maxRecDepth 20000 in
set_option maxHeartbeats 4000000 in
theorem measureHex_any (s : ByteArray) (w : World) (h0 : 2 ≤ s.size) (hs : s.size < 4611686018427387904) : Calls Tryz.prog 105 #[.string s] w fun e w' => e = .returned (.tuple #[.int .i64 (hexM s.toList).1, .int .i64 (hexM s.toList).2]) ∧ w' = w := by
  have k1 : Hid _ := digits_isHex (s.extract 2 s.size) w (by rw [ByteArray.size_extract]; omega)
  obtain ⟨hl1, hl2⟩ := digitsM_le isHexB (s.extract 2 s.size)
  rw [toList_drop] at k1 hl1 hl2
  rw [ByteArray.size_extract] at hl1 hl2
  have hM : Hid (hexM s.toList = if (digitsM isHexB (s.toList.drop 2)).2.1 = 0 then (2, 0) else if byteAt s.toList ((digitsM isHexB (s.toList.drop 2)).1 + 2) = 112 ∨ byteAt s.toList ((digitsM isHexB (s.toList.drop 2)).1 + 2) = 80 then (3, expM s.toList ((digitsM isHexB (s.toList.drop 2)).1 + 2)) else if (digitsM isHexB (s.toList.drop 2)).2.2 = true then (3, 0) else (2, (digitsM isHexB (s.toList.drop 2)).1 + 2)) := rfl
  generalize (digitsM isHexB (s.toList.drop 2)).1 = n at *
  generalize (digitsM isHexB (s.toList.drop 2)).2.1 = d at *
  generalize (digitsM isHexB (s.toList.drop 2)).2.2 = dot at *
  go_enter Tryz.func105, Tryz.ntmps105
  go_wp2_with fail
  refine Calls.mono k1.out ?_
  rintro e w1 ⟨rfl, rfl⟩
  clear k1
  by_cases hd : d = 0
  · subst hd
    rw [if_pos rfl] at hM
    go_wp2
    exact bodyPost_ret (v := .tuple #[.int .i64 2, .int .i64 0]) (by simp [results, Tryz.results105, go_sem]) rfl ⟨by rw [hM.out]; try rfl, rfl⟩
  · have d0 : ((d : Int) == 0) = false := by simpa using hd
    rw [if_neg hd] at hM
    by_cases hn : n + 2 < s.size
    · have d1 : decide ((n : Int) + 2 < s.size) = true := decide_eq_true (by omega)
      have hb := byteAt_lt s hn
      have k2 : Hid _ := withExponent_any s (n + 2) w1 hn hs
      by_cases h1 : ((s[n + 2]'hn).toNat : Int) = 112
      · rw [hb, if_pos (.inl h1)] at hM
        have d2 : (((s[n + 2]'hn).toNat : Int) == 112) = true := by simp [h1]
        clear hb
        go_wp2_with fail
        refine Calls.mono k2.out ?_
        rintro e w2 ⟨rfl, rfl⟩
        go_wp2
        exact bodyPost_ret (v := .tuple #[.int .i64 3, .int .i64 (expM s.toList (n + 2))]) (by simp [results, Tryz.results105, go_sem]) rfl ⟨by rw [hM.out]; try rfl, rfl⟩
      · have d2 : (((s[n + 2]'hn).toNat : Int) == 112) = false := by simp [h1]
        by_cases h2 : ((s[n + 2]'hn).toNat : Int) = 80
        · rw [hb, if_pos (.inr h2)] at hM
          have d3 : (((s[n + 2]'hn).toNat : Int) == 80) = true := by simp [h2]
          clear hb
          go_wp2_with fail
          refine Calls.mono k2.out ?_
          rintro e w2 ⟨rfl, rfl⟩
          go_wp2
          exact bodyPost_ret (v := .tuple #[.int .i64 3, .int .i64 (expM s.toList (n + 2))]) (by simp [results, Tryz.results105, go_sem]) rfl ⟨by rw [hM.out]; try rfl, rfl⟩
        · have d3 : (((s[n + 2]'hn).toNat : Int) == 80) = false := by simp [h2]
          rw [hb, if_neg (by omega)] at hM
          clear hb k2
          cases dot with
          | true =>
            rw [if_pos rfl] at hM
            go_wp2
            exact bodyPost_ret (v := .tuple #[.int .i64 3, .int .i64 0]) (by simp [results, Tryz.results105, go_sem]) rfl ⟨by rw [hM.out]; try rfl, rfl⟩
          | false =>
            rw [if_neg (by decide)] at hM
            go_wp2
            exact bodyPost_ret (v := .tuple #[.int .i64 2, .int .i64 ((n + 2 : Nat) : Int)]) (by simp [results, Tryz.results105, go_sem]) rfl ⟨by rw [hM.out]; try rfl, rfl⟩
    · have d1 : decide ((n : Int) + 2 < s.size) = false := decide_eq_false (by omega)
      rw [byteAt_ge s (by omega), if_neg (by decide)] at hM
      cases dot with
      | true =>
        rw [if_pos rfl] at hM
        go_wp2
        exact bodyPost_ret (v := .tuple #[.int .i64 3, .int .i64 0]) (by simp [results, Tryz.results105, go_sem]) rfl ⟨by rw [hM.out]; try rfl, rfl⟩
      | false =>
        rw [if_neg (by decide)] at hM
        go_wp2
        exact bodyPost_ret (v := .tuple #[.int .i64 2, .int .i64 ((n + 2 : Nat) : Int)]) (by simp [results, Tryz.results105, go_sem]) rfl ⟨by rw [hM.out]; try rfl, rfl⟩
def basedM (l : List UInt8) : Int × Nat := if byteAt l 0 ≠ 48 ∨ l.length < 2 then decimalM l else if byteAt l 1 = 120 ∨ byteAt l 1 = 88 then hexM l else if byteAt l 1 = 111 ∨ byteAt l 1 = 79 then (2, wholeM isOctalB l) else if byteAt l 1 = 98 ∨ byteAt l 1 = 66 then (2, wholeM isBinaryB l) else decimalM l
set_option maxRecDepth 20000 in
set_option maxHeartbeats 4000000 in
theorem measureBased_any (s : ByteArray) (w : World) (h0 : 0 < s.size) (hs : s.size < 4611686018427387904) : Calls Tryz.prog 95 #[.string s] w fun e w' => e = .returned (.tuple #[.int .i64 (basedM s.toList).1, .int .i64 (basedM s.toList).2]) ∧ w' = w := by
  have kd : Hid _ := measureDecimal_any s w h0 hs
  have hz := byteAt_lt s h0
  have hM : Hid (basedM s.toList = if byteAt s.toList 0 ≠ 48 ∨ s.toList.length < 2 then decimalM s.toList else if byteAt s.toList 1 = 120 ∨ byteAt s.toList 1 = 88 then hexM s.toList else if byteAt s.toList 1 = 111 ∨ byteAt s.toList 1 = 79 then (2, wholeM isOctalB s.toList) else if byteAt s.toList 1 = 98 ∨ byteAt s.toList 1 = 66 then (2, wholeM isBinaryB s.toList) else decimalM s.toList) := rfl
  rw [toList_len, hz] at hM
  clear hz
  go_enter Tryz.func95, Tryz.ntmps95
  by_cases c0 : ((s[0]'h0).toNat : Int) = 48
  · have e0 : (((s[0]'h0).toNat : Int) != 48) = false := by simp [c0]
    by_cases h1 : 1 < s.size
    · have d1 : decide ((s.size : Int) < 2) = false := decide_eq_false (by omega)
      have hb := byteAt_lt s h1
      rw [hb, if_neg (by omega)] at hM
      clear hb
      have kh : Hid _ := measureHex_any s w h1 hs
      have ko : Hid _ := whole_isOctal s w h1 hs
      have kb : Hid _ := whole_isBinary s w h1 hs
      by_cases c120 : ((s[1]'h1).toNat : Int) = 120
      · have e120 : (((s[1]'h1).toNat : Int) == 120) = true := by simp [c120]
        rw [if_pos (.inl c120)] at hM
        go_wp2_with fail
        refine Calls.mono kh.out ?_
        rintro e w2 ⟨rfl, rfl⟩
        go_wp2
        exact bodyPost_ret (v := .tuple #[.int .i64 (hexM s.toList).1, .int .i64 (hexM s.toList).2]) (by simp [results, Tryz.results95, go_sem]) rfl ⟨by rw [hM.out]; try rfl, rfl⟩
      · have e120 : (((s[1]'h1).toNat : Int) == 120) = false := by simp [c120]
        by_cases c88 : ((s[1]'h1).toNat : Int) = 88
        · have e88 : (((s[1]'h1).toNat : Int) == 88) = true := by simp [c88]
          rw [if_pos (.inr c88)] at hM
          go_wp2_with fail
          refine Calls.mono kh.out ?_
          rintro e w2 ⟨rfl, rfl⟩
          go_wp2
          exact bodyPost_ret (v := .tuple #[.int .i64 (hexM s.toList).1, .int .i64 (hexM s.toList).2]) (by simp [results, Tryz.results95, go_sem]) rfl ⟨by rw [hM.out]; try rfl, rfl⟩
        · have e88 : (((s[1]'h1).toNat : Int) == 88) = false := by simp [c88]
          by_cases c111 : ((s[1]'h1).toNat : Int) = 111
          · have e111 : (((s[1]'h1).toNat : Int) == 111) = true := by simp [c111]
            rw [if_neg (by omega), if_pos (.inl c111)] at hM
            go_wp2_with fail
            refine Calls.mono ko.out ?_
            rintro e w2 ⟨rfl, rfl⟩
            go_wp2
            exact bodyPost_ret (v := .tuple #[.int .i64 2, .int .i64 (wholeM isOctalB s.toList)]) (by simp [results, Tryz.results95, go_sem]) rfl ⟨by rw [hM.out]; try rfl, rfl⟩
          · have e111 : (((s[1]'h1).toNat : Int) == 111) = false := by simp [c111]
            by_cases c79 : ((s[1]'h1).toNat : Int) = 79
            · have e79 : (((s[1]'h1).toNat : Int) == 79) = true := by simp [c79]
              rw [if_neg (by omega), if_pos (.inr c79)] at hM
              go_wp2_with fail
              refine Calls.mono ko.out ?_
              rintro e w2 ⟨rfl, rfl⟩
              go_wp2
              exact bodyPost_ret (v := .tuple #[.int .i64 2, .int .i64 (wholeM isOctalB s.toList)]) (by simp [results, Tryz.results95, go_sem]) rfl ⟨by rw [hM.out]; try rfl, rfl⟩
            · have e79 : (((s[1]'h1).toNat : Int) == 79) = false := by simp [c79]
              by_cases c98 : ((s[1]'h1).toNat : Int) = 98
              · have e98 : (((s[1]'h1).toNat : Int) == 98) = true := by simp [c98]
                rw [if_neg (by omega), if_neg (by omega), if_pos (.inl c98)] at hM
                go_wp2_with fail
                refine Calls.mono kb.out ?_
                rintro e w2 ⟨rfl, rfl⟩
                go_wp2
                exact bodyPost_ret (v := .tuple #[.int .i64 2, .int .i64 (wholeM isBinaryB s.toList)]) (by simp [results, Tryz.results95, go_sem]) rfl ⟨by rw [hM.out]; try rfl, rfl⟩
              · have e98 : (((s[1]'h1).toNat : Int) == 98) = false := by simp [c98]
                by_cases c66 : ((s[1]'h1).toNat : Int) = 66
                · have e66 : (((s[1]'h1).toNat : Int) == 66) = true := by simp [c66]
                  rw [if_neg (by omega), if_neg (by omega), if_pos (.inr c66)] at hM
                  go_wp2_with fail
                  refine Calls.mono kb.out ?_
                  rintro e w2 ⟨rfl, rfl⟩
                  go_wp2
                  exact bodyPost_ret (v := .tuple #[.int .i64 2, .int .i64 (wholeM isBinaryB s.toList)]) (by simp [results, Tryz.results95, go_sem]) rfl ⟨by rw [hM.out]; try rfl, rfl⟩
                · have e66 : (((s[1]'h1).toNat : Int) == 66) = false := by simp [c66]
                  rw [if_neg (by omega), if_neg (by omega), if_neg (by omega)] at hM
                  go_wp2_with fail
                  refine Calls.mono kd.out ?_
                  rintro e w2 ⟨rfl, rfl⟩
                  go_wp2
                  exact bodyPost_ret (v := .tuple #[.int .i64 (decimalM s.toList).1, .int .i64 (decimalM s.toList).2]) (by simp [results, Tryz.results95, go_sem]) rfl ⟨by rw [hM.out]; try rfl, rfl⟩
    · have d1 : decide ((s.size : Int) < 2) = true := decide_eq_true (by omega)
      rw [if_pos (.inr (by omega))] at hM
      go_wp2_with fail
      refine Calls.mono kd.out ?_
      rintro e w2 ⟨rfl, rfl⟩
      go_wp2
      exact bodyPost_ret (v := .tuple #[.int .i64 (decimalM s.toList).1, .int .i64 (decimalM s.toList).2]) (by simp [results, Tryz.results95, go_sem]) rfl ⟨by rw [hM.out]; try rfl, rfl⟩
  · have e0 : (((s[0]'h0).toNat : Int) != 48) = true := by simp [c0]
    rw [if_pos (.inl c0)] at hM
    go_wp2_with fail
    refine Calls.mono kd.out ?_
    rintro e w2 ⟨rfl, rfl⟩
    go_wp2
    exact bodyPost_ret (v := .tuple #[.int .i64 (decimalM s.toList).1, .int .i64 (decimalM s.toList).2]) (by simp [results, Tryz.results95, go_sem]) rfl ⟨by rw [hM.out]; try rfl, rfl⟩
theorem expM_le (s : ByteArray) (n : Nat) (hn : n < s.size) : expM s.toList n ≤ s.size := by
  unfold expM
  have h1 : expAt s.toList n ≤ s.size := by
    unfold expAt
    split
    · rename_i h
      by_cases hc : n + 1 < s.size
      · omega
      · rw [byteAt_ge s (by omega)] at h
        omega
    · omega
  have h2 := spanL_drop isDigitB s (expAt s.toList n) h1
  split
  · exact Nat.zero_le _
  · exact h2
theorem byteAt_in (s : ByteArray) (n : Nat) (h : 0 ≤ byteAt s.toList n) : n < s.size := by
  by_cases hc : n < s.size
  · exact hc
  · rw [byteAt_ge s (by omega)] at h
    omega
theorem decimalM_le (s : ByteArray) : (decimalM s.toList).2 ≤ s.size := by
  have h1 := (digitsM_le isDigitB s).1
  unfold decimalM
  split
  · rename_i h
    exact expM_le s _ (byteAt_in s _ (by omega))
  · split
    · exact h1
    · split
      · exact Nat.zero_le _
      · exact h1
theorem hexM_le (s : ByteArray) (h0 : 2 ≤ s.size) : (hexM s.toList).2 ≤ s.size := by
  have h1 := (digitsM_le isHexB (s.extract 2 s.size)).1
  rw [toList_drop, ByteArray.size_extract] at h1
  unfold hexM
  split
  · exact Nat.zero_le _
  · split
    · rename_i h
      exact expM_le s _ (byteAt_in s _ (by omega))
    · split
      · exact Nat.zero_le _
      · show _ + 2 ≤ _
        omega
theorem wholeM_le (p : Int → Bool) (s : ByteArray) (h0 : 2 ≤ s.size) : wholeM p s.toList ≤ s.size := by
  have := spanL_drop p s 2 h0
  unfold wholeM
  split
  · exact Nat.zero_le _
  · exact this
theorem basedM_le (s : ByteArray) : (basedM s.toList).2 ≤ s.size := by
  unfold basedM
  rw [toList_len]
  split
  · exact decimalM_le s
  · split
    · exact hexM_le s (by omega)
    · split
      · exact wholeM_le _ s (by omega)
      · split
        · exact wholeM_le _ s (by omega)
        · exact decimalM_le s
def numberM (l : List UInt8) : Int × Nat := if inNameB (byteAt l (basedM l).2) = true ∨ byteAt l (basedM l).2 = 46 then ((basedM l).1, 0) else basedM l
theorem inName_none : inNameB (-1) = false := by decide
set_option maxRecDepth 20000 in
set_option maxHeartbeats 4000000 in
theorem measureNumber_any (s : ByteArray) (w : World) (h0 : 0 < s.size) (hs : s.size < 4611686018427387904) : Calls Tryz.prog 75 #[.string s] w fun e w' => e = .returned (.tuple #[.int .i64 (numberM s.toList).1, .int .i64 (numberM s.toList).2]) ∧ w' = w := by
  have k1 : Hid _ := measureBased_any s w h0 hs
  have hle := basedM_le s
  have hM : Hid (numberM s.toList = if inNameB (byteAt s.toList (basedM s.toList).2) = true ∨ byteAt s.toList (basedM s.toList).2 = 46 then ((basedM s.toList).1, 0) else ((basedM s.toList).1, (basedM s.toList).2)) := rfl
  generalize (basedM s.toList).1 = kd at *
  generalize (basedM s.toList).2 = n at *
  go_enter Tryz.func75, Tryz.ntmps75
  go_wp2_with fail
  refine Calls.mono k1.out ?_
  rintro e w1 ⟨rfl, rfl⟩
  by_cases hn : n < s.size
  · have d1 : decide ((n : Int) < s.size) = true := decide_eq_true (by omega)
    have hb := byteAt_lt s hn
    have k2 : Hid _ := fun w => inName_any ((s[n]'hn).toNat : Int) w
    rw [hb] at hM
    clear hb
    go_wp2_with fail
    refine Calls.mono (k2.out _) ?_
    rintro e w2 ⟨rfl, rfl⟩
    cases hi : inNameB ((s[n]'hn).toNat : Int) with
    | true =>
      rw [if_pos (.inl hi)] at hM
      go_wp2
      exact bodyPost_ret (v := .tuple #[.int .i64 kd, .int .i64 0]) (by simp [results, Tryz.results75, go_sem]) rfl ⟨by rw [hM.out]; try rfl, rfl⟩
    | false =>
      by_cases h4 : ((s[n]'hn).toNat : Int) = 46
      · have d2 : (((s[n]'hn).toNat : Int) == 46) = true := by simp [h4]
        rw [if_pos (.inr h4)] at hM
        clear hi
        go_wp2
        exact bodyPost_ret (v := .tuple #[.int .i64 kd, .int .i64 0]) (by simp [results, Tryz.results75, go_sem]) rfl ⟨by rw [hM.out]; try rfl, rfl⟩
      · have d2 : (((s[n]'hn).toNat : Int) == 46) = false := by simp [h4]
        rw [if_neg (by rw [hi]; simp [h4])] at hM
        clear hi
        go_wp2
        exact bodyPost_ret (v := .tuple #[.int .i64 kd, .int .i64 n]) (by simp [results, Tryz.results75, go_sem]) rfl ⟨by rw [hM.out]; try rfl, rfl⟩
  · have d1 : decide ((n : Int) < s.size) = false := decide_eq_false (by omega)
    rw [byteAt_ge s (by omega), inName_none, if_neg (by decide)] at hM
    go_wp2
    exact bodyPost_ret (v := .tuple #[.int .i64 kd, .int .i64 n]) (by simp [results, Tryz.results75, go_sem]) rfl ⟨by rw [hM.out]; try rfl, rfl⟩
end Go.Proofs.YtfbacidpjpghiaaGreatDoor
namespace Go.Proofs.YtfbacidpjpghiaaGreatDoor
open Go.RowKit
attribute [local go_sem ↓] Go.wp_at_zero Go.wp_at_succ
/-- The longest operator of at most so many bytes. -/
def opGo (l : List UInt8) : Nat → Nat
  | 0 => 0
  | n + 1 => if opB (l.take (n + 1)) = true then n + 1 else opGo l n
def opL (l : List UInt8) : Nat := opGo l (min 3 l.length)
theorem opGo_le (l : List UInt8) (n : Nat) : opGo l n ≤ n := by
  induction n with
  | zero => exact Nat.le_refl _
  | succ n ih =>
    unfold opGo
    split
    · exact Nat.le_refl _
    · omega
set_option maxRecDepth 20000 in
set_option maxHeartbeats 4000000 in
theorem operatorLength_any (s : ByteArray) (w : World) (hs : s.size < 4611686018427387904) : Calls Tryz.prog 77 #[.string s] w fun e w' => e = .returned (.int .i64 (opL s.toList)) ∧ w' = w := by
  obtain ⟨S, hS⟩ : ∃ S, S = opL s.toList := ⟨_, rfl⟩
  rw [← hS]
  have hmn : min (3 : Int) (s.size : Int) = ((min 3 s.size : Nat) : Int) := by omega
  have hi : opL s.toList = opGo s.toList (min 3 s.size) := by unfold opL; rw [toList_len]
  rw [hi] at hS
  have hm3 : min 3 s.size ≤ s.size := Nat.min_le_right _ _
  generalize min 3 s.size = m at *
  replace hS : Hid _ := hS
  clear hi
  go_enter Tryz.func77, Tryz.ntmps77
  go_wp2
  go_loopw [3] (fun n wr => ∃ k : Nat, n = .int .i64 k ∧ k ≤ s.size ∧ Hid (S = opGo s.toList k) ∧ wr = w) (fun n _ => (intOf n).toNat)
  case atStart => exact ⟨m, by first | rfl | (go_num), hm3, hS.out, rfl⟩
  case round =>
    obtain ⟨k, rfl, hk, hI, rfl⟩ := hrel
    cases k with
    | zero =>
      have hI' := hI.out
      unfold opGo at hI'
      go_wp2
      go_ret
      exact ⟨by rw [hI']; rfl, rfl⟩
    | succ k =>
      have d1 : decide (((k + 1 : Nat) : Int) > 0) = true := decide_eq_true (by omega)
      have hI' := hI.out
      unfold opGo at hI'
      have k2 : Hid _ := fun w => isOperator_any (s.extract 0 (k + 1)) w
      rw [toList_take] at k2
      go_wp2_with fail
      refine Calls.mono (k2.out _) ?_
      rintro e w2 ⟨rfl, rfl⟩
      cases hb : opB (s.toList.take (k + 1)) with
      | true =>
        rw [if_pos hb] at hI'
        go_wp2
        go_ret
        exact ⟨by rw [hI']; rfl, rfl⟩
      | false =>
        rw [if_neg (by rw [hb]; decide)] at hI'
        go_wp2
        go_roundw
        case rel => exact ⟨k, by go_num, by omega, hI', by first | trivial | rfl⟩
        case measure => simp [intOf]
def lineM (l : List UInt8) : Int := if 0 ≤ Lib.indexByte l 10 then Lib.indexByte l 10 else l.length
set_option maxRecDepth 20000 in
set_option maxHeartbeats 4000000 in
theorem lineLength_any (s : ByteArray) (w : World) : Calls Tryz.prog 39 #[.string s] w fun e w' => e = .returned (.int .i64 (lineM s.toList)) ∧ w' = w := by
  have k1 : Hid (Calls Tryz.prog 54 #[.string s, .int .u8 10] w fun e w' => e = .returned (.int .i64 (Lib.indexByte s.toList 10)) ∧ w' = w) := by
    have := Tryz.strings_IndexByte s 10 w
    rw [← ByteArray.toList_eq] at this
    exact this
  have hM : Hid (lineM s.toList = if 0 ≤ Lib.indexByte s.toList 10 then Lib.indexByte s.toList 10 else (s.size : Int)) := by show _ = _; unfold lineM; rw [toList_len]
  generalize Lib.indexByte s.toList 10 = n at *
  go_enter Tryz.func39, Tryz.ntmps39
  go_wp2_with fail
  refine Calls.mono k1.out ?_
  rintro e w1 ⟨rfl, rfl⟩
  by_cases hn : 0 ≤ n
  · have d1 : decide (n ≥ 0) = true := decide_eq_true hn
    rw [if_pos hn] at hM
    go_wp2
    go_ret
    exact ⟨by rw [hM.out]; rfl, rfl⟩
  · have d1 : decide (n ≥ 0) = false := decide_eq_false hn
    rw [if_neg hn] at hM
    go_wp2
    go_ret
    exact ⟨by rw [hM.out]; rfl, rfl⟩
/-- What the roads read of the package-level variables. -/
def Glob (w : World) : Prop := (Lib.Utf8Tabs 1 2 w ∧ ∃ te pe, w.cell? ⟨3, 0, none⟩ = some (.iface te pe)) ∧ ∃ m, w.cell? ⟨0, 0, none⟩ = some (.int .i64 m)
theorem Glob.next {w w' : World} (h : Glob w) (hb : Below w.heap.size w w') : Glob w' := by
  obtain ⟨⟨h1, te, pe, h3⟩, m, h2⟩ := h
  exact ⟨⟨Utf8Tabs_below h1 hb, te, pe, keep_cell hb h3⟩, m, keep_cell hb h2⟩
def commentM (l : List UInt8) : Int := if Lib.index (l.drop 2) [42, 47] < 0 then 0 else 2 + Lib.index (l.drop 2) [42, 47] + 2
theorem index_lt (l sub : List UInt8) : Lib.index l sub ≤ l.length := by
  induction l with
  | nil => unfold Lib.index; split <;> simp
  | cons b l ih =>
    unfold Lib.index
    simp only [List.length_cons]
    split
    · omega
    · split <;> omega
set_option maxRecDepth 20000 in
set_option maxHeartbeats 4000000 in
theorem commentLength_any (s : ByteArray) (w : World) (hG : Glob w) (h2 : 2 ≤ s.size) (hs : s.size < 4294967281) : Calls Tryz.prog 55 #[.string s] w fun e w' => e = .returned (.int .i64 (commentM s.toList)) ∧ w' = w := by
  obtain ⟨_, m, hm⟩ := hG
  have k1 : Hid (Calls Tryz.prog 71 #[.string (s.extract 2 s.size), .string ⟨#[42, 47]⟩] w fun e w' => e = .returned (.int .i64 (Lib.index (s.toList.drop 2) [42, 47])) ∧ w' = w) := by
    have := Tryz.strings_Index (s.extract 2 s.size) ⟨#[42, 47]⟩ m w (by rw [ByteArray.size_extract]; omega) hm
    rw [← ByteArray.toList_eq, toList_drop] at this
    exact this
  have hle := index_lt (s.toList.drop 2) [42, 47]
  rw [List.length_drop, toList_len] at hle
  have hM : Hid (commentM s.toList = if Lib.index (s.toList.drop 2) [42, 47] < 0 then 0 else 2 + Lib.index (s.toList.drop 2) [42, 47] + 2) := rfl
  generalize Lib.index (s.toList.drop 2) [42, 47] = n at *
  clear hm
  go_enter Tryz.func55, Tryz.ntmps55
  go_wp2_with fail
  refine Calls.mono k1.out ?_
  rintro e w1 ⟨rfl, rfl⟩
  by_cases hn : n < 0
  · have d1 : decide (n < 0) = true := decide_eq_true hn
    rw [if_pos hn] at hM
    go_wp2
    go_ret
    exact ⟨by rw [hM.out]; rfl, rfl⟩
  · have d1 : decide (n < 0) = false := decide_eq_false hn
    have hw1 : IntKind.i64.wrap (2 + n) = 2 + n := by rw [IntKind.wrap_i64]; omega
    have hw2 : IntKind.i64.wrap (2 + n + 2) = 2 + n + 2 := by rw [IntKind.wrap_i64]; omega
    rw [if_neg hn] at hM
    go_wp2
    go_ret
    exact ⟨by rw [hM.out]; rfl, rfl⟩
/-- Which tokens ask for a semicolon. -/
def asksM (k : Int) (l : List UInt8) : Bool :=
  decide (k = 1) || decide (k = 2) || decide (k = 3) || decide (k = 4) || (decide (k = 6) && (l == [98, 114, 101, 97, 107] || l == [99, 111, 110, 116, 105, 110, 117, 101] || l == [114, 101, 116, 117, 114, 110])) || (decide (k = 5) && (l == [43, 43] || l == [45, 45] || l == [41] || l == [93] || l == [125]))
set_option maxRecDepth 20000 in
set_option maxHeartbeats 4000000 in
theorem asks_any (k a : Int) (s : ByteArray) (w : World) : Calls Tryz.prog 42 #[.agg #[.int .i64 k, .string s, .int .i64 a]] w fun e w' => e = .returned (.bool (asksM k s.toList)) ∧ Below w.heap.size w w' := by
  obtain ⟨W, hW⟩ : ∃ W, W = w.alloc (.cells #[.int .i64 k, .string s, .int .i64 a] 32) := ⟨_, rfl⟩
  have hbW : Below w.heap.size w W := by rw [hW]; exact (Below.refl _ _).alloc (Nat.le_refl _) _
  have e0 : W.cell? ⟨w.heap.size, 0, none⟩ = some (.int .i64 k) := by rw [hW]; simp [go_sem]
  have e1 : W.cell? ⟨w.heap.size, 1, none⟩ = some (.string s) := by rw [hW]; simp [go_sem]
  go_enter Tryz.func42, Tryz.ntmps42
  go_upto_region 1 with fail
  rw [← hW]
  clear hW
  generalize hl : s.toList = l
  replace hbW : Hid _ := hbW
  go_wp2
  all_goals go_ret
  all_goals first
    | (exfalso; simp_all; done)
    | (refine ⟨congrArg (fun b => Ending.returned (.bool b)) ?_, hbW.out⟩; clear hbW; simp_all [asksM]; done)
    | (refine ⟨congrArg (fun b => Ending.returned (.bool b)) ?_, hbW.out⟩; clear hbW; simp_all [asksM]; trace_state; done)
end Go.Proofs.YtfbacidpjpghiaaGreatDoor
