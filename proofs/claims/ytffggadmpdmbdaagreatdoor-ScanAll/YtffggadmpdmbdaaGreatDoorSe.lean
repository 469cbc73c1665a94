/- scan: numbers. -/
import Derived.Test.YtffggadmpdmbdaaGreatDoorSd
namespace Go.Proofs.YtffggadmpdmbdaaGreatDoor
open Go.RowKit
attribute [local go_sem ↓] Go.wp_at_zero Go.wp_at_succ
/-- An exponent's digits: not above 999. -/
def fitsGo (v : Nat) : List UInt8 → Bool
  | [] => true
  | c :: r => if 999 < 10 * v + (c.toNat + 208) % 256 then false else fitsGo (10 * v + (c.toNat + 208) % 256) r
set_option maxRecDepth 20000 in
set_option maxHeartbeats 4000000 in
theorem fits_any (s : ByteArray) (w : World) (hs : s.size < 4611686018427387904) : Calls Tryz.prog 86 #[.string s] w fun e w' => e = .returned (.bool (fitsGo 0 s.toList)) ∧ w' = w := by
  obtain ⟨S, hS⟩ : ∃ S, S = fitsGo 0 s.toList := ⟨_, rfl⟩
  rw [← hS]
  go_enter Tryz.func86, Tryz.ntmps86
  go_wp2
  go_loopw [3, 7] (fun v n wr => ∃ k x : Nat, n = .int .i64 k ∧ v = .int .i64 x ∧ x ≤ 999 ∧ k ≤ s.size ∧ Hid (S = fitsGo x (s.toList.drop k)) ∧ wr = w) (fun _ n _ => (s.size - intOf n).toNat)
  case atStart => exact ⟨0, 0, rfl, rfl, by decide, Nat.zero_le _, by rw [List.drop_zero]; exact hS, rfl⟩
  case round =>
    obtain ⟨k, x, rfl, rfl, hx, hk, hI, rfl⟩ := hrel
    by_cases hlt : k < s.size
    · have d1 : decide ((k : Int) < s.size) = true := decide_eq_true (by omega)
      have hI' := hI.out
      rw [drop_at s hlt] at hI'
      unfold fitsGo at hI'
      have hc256 : (s[k]'hlt).toNat < 256 := UInt8.toNat_lt _
      have hw1 : IntKind.u8.wrap (((s[k]'hlt).toNat : Int) - 48) = ((((s[k]'hlt).toNat + 208) % 256 : Nat) : Int) := by rw [IntKind.wrap_u8]; omega
      have hd256 : ((s[k]'hlt).toNat + 208) % 256 < 256 := Nat.mod_lt _ (by decide)
      generalize hD : ((s[k]'hlt).toNat + 208) % 256 = D at *
      replace hD : Hid _ := hD
      have hw2 : IntKind.i64.wrap (10 * (x : Int) + (D : Int)) = 10 * (x : Int) + (D : Int) := by rw [IntKind.wrap_i64]; omega
      by_cases hg : 999 < 10 * x + D
      · rw [if_pos hg] at hI'
        have d2 : decide (10 * (x : Int) + (D : Int) > 999) = true := decide_eq_true (by omega)
        go_wp2
        go_ret
        exact ⟨by rw [hI']; rfl, rfl⟩
      · rw [if_neg hg] at hI'
        have d2 : decide (10 * (x : Int) + (D : Int) > 999) = false := decide_eq_false (by omega)
        go_wp2
        go_roundw
        case rel => exact ⟨k + 1, 10 * x + D, by go_num, by go_num, by omega, by omega, hI', by first | trivial | rfl⟩
        case measure => simp [intOf]; omega
    · have d1 : decide ((k : Int) < s.size) = false := decide_eq_false (by omega)
      have hI' := hI.out
      rw [drop_end s (by omega)] at hI'
      go_wp2
      go_ret
      exact ⟨by rw [hI']; rfl, rfl⟩
/-- Where an exponent that begins at n ends, 0 if it is none. -/
def expAt (l : List UInt8) (n : Nat) : Nat := if byteAt l (n + 1) = 43 ∨ byteAt l (n + 1) = 45 then n + 1 + 1 else n + 1
def expM (l : List UInt8) (n : Nat) : Nat := if spanL isDigitB (l.drop (expAt l n)) = 0 ∨ fitsGo 0 ((l.take (expAt l n + spanL isDigitB (l.drop (expAt l n)))).drop (expAt l n)) = false then 0 else expAt l n + spanL isDigitB (l.drop (expAt l n))
theorem exp_tail (s : ByteArray) (n a : Nat) (ha : a = expAt s.toList n) (_hle : a ≤ s.size) (w : World) (hs : s.size < 4611686018427387904) :
    (Calls Tryz.prog 61 #[.string (s.extract a s.size), .func (.func 54) #[] #[]] w fun e w' => e = .returned (.int .i64 (spanL isDigitB (s.toList.drop a))) ∧ w' = w) ∧
    (Calls Tryz.prog 86 #[.string (s.extract a (a + spanL isDigitB (s.toList.drop a)))] w fun e w' => e = .returned (.bool (fitsGo 0 ((s.toList.take (a + spanL isDigitB (s.toList.drop a))).drop a))) ∧ w' = w) := by
  constructor
  · have := span_isDigit (s.extract a s.size) w (by rw [ByteArray.size_extract]; omega)
    rw [toList_drop] at this
    exact this
  · have := fits_any (s.extract a (a + spanL isDigitB (s.toList.drop a))) w (by rw [ByteArray.size_extract]; omega)
    rw [toList_extract] at this
    exact this
set_option maxRecDepth 20000 in
set_option maxHeartbeats 4000000 in
theorem withExponent_any (s : ByteArray) (n : Nat) (w : World) (hn : n < s.size) (hs : s.size < 4611686018427387904) : Calls Tryz.prog 78 #[.string s, .int .i64 n] w fun e w' => e = .returned (.tuple #[.int .i64 3, .int .i64 (expM s.toList n)]) ∧ w' = w := by
  by_cases h1 : n + 1 < s.size
  · have d1 : decide ((n : Int) + 1 < s.size) = true := decide_eq_true (by omega)
    have hb := byteAt_lt s h1
    by_cases hp : ((s[n + 1]'h1).toNat : Int) = 43
    · have d2 : (((s[n + 1]'h1).toNat : Int) == 43) = true := by simp [hp]
      have hA : Hid (expAt s.toList n = n + 1 + 1) := by show _ = _; unfold expAt; rw [hb, if_pos (.inl hp)]
      clear hb
      go_enter Tryz.func78, Tryz.ntmps78
      have hadd := spanL_drop isDigitB s (n + 1 + 1) (by omega)
      obtain ⟨k1, k2⟩ := exp_tail s n (n + 1 + 1) (by rw [hA.out]) (by omega) w hs
      have hM : Hid (expM s.toList n = if spanL isDigitB (s.toList.drop (n + 1 + 1)) = 0 ∨ fitsGo 0 ((s.toList.take (n + 1 + 1 + spanL isDigitB (s.toList.drop (n + 1 + 1)))).drop (n + 1 + 1)) = false then 0 else n + 1 + 1 + spanL isDigitB (s.toList.drop (n + 1 + 1))) := by show _ = _; unfold expM; rw [hA.out]
      replace k1 : Hid _ := k1
      replace k2 : Hid _ := k2
      generalize fitsGo 0 ((s.toList.take (n + 1 + 1 + spanL isDigitB (s.toList.drop (n + 1 + 1)))).drop (n + 1 + 1)) = F at *
      generalize spanL isDigitB (s.toList.drop (n + 1 + 1)) = m at *
      go_wp2_with fail
      refine Calls.mono k1.out ?_
      rintro e w1 ⟨rfl, rfl⟩
      by_cases hm : m = 0
      · subst hm
        rw [if_pos (.inl rfl)] at hM
        go_wp2
        exact bodyPost_ret (v := .tuple #[.int .i64 3, .int .i64 0]) (by simp [results, Tryz.results78, go_sem]) rfl ⟨by rw [hM.out]; try rfl, rfl⟩
      · have d9 : ((m : Int) == 0) = false := by simpa using hm
        go_wp2_with fail
        refine Calls.mono k2.out ?_
        rintro e w2 ⟨rfl, rfl⟩
        cases F with
        | true =>
          rw [if_neg (by simp [hm])] at hM
          go_wp2
          exact bodyPost_ret (v := .tuple #[.int .i64 3, .int .i64 ((n + 1 + 1 + m : Nat) : Int)]) (by simp [results, Tryz.results78, go_sem]) rfl ⟨by rw [hM.out]; try rfl, rfl⟩
        | false =>
          rw [if_pos (.inr rfl)] at hM
          go_wp2
          exact bodyPost_ret (v := .tuple #[.int .i64 3, .int .i64 0]) (by simp [results, Tryz.results78, go_sem]) rfl ⟨by rw [hM.out]; try rfl, rfl⟩
    · have d2 : (((s[n + 1]'h1).toNat : Int) == 43) = false := by simp [hp]
      by_cases hq : ((s[n + 1]'h1).toNat : Int) = 45
      · have d3 : (((s[n + 1]'h1).toNat : Int) == 45) = true := by simp [hq]
        have hA : Hid (expAt s.toList n = n + 1 + 1) := by show _ = _; unfold expAt; rw [hb, if_pos (.inr hq)]
        clear hb
        go_enter Tryz.func78, Tryz.ntmps78
        have hadd := spanL_drop isDigitB s (n + 1 + 1) (by omega)
        obtain ⟨k1, k2⟩ := exp_tail s n (n + 1 + 1) (by rw [hA.out]) (by omega) w hs
        have hM : Hid (expM s.toList n = if spanL isDigitB (s.toList.drop (n + 1 + 1)) = 0 ∨ fitsGo 0 ((s.toList.take (n + 1 + 1 + spanL isDigitB (s.toList.drop (n + 1 + 1)))).drop (n + 1 + 1)) = false then 0 else n + 1 + 1 + spanL isDigitB (s.toList.drop (n + 1 + 1))) := by show _ = _; unfold expM; rw [hA.out]
        replace k1 : Hid _ := k1
        replace k2 : Hid _ := k2
        generalize fitsGo 0 ((s.toList.take (n + 1 + 1 + spanL isDigitB (s.toList.drop (n + 1 + 1)))).drop (n + 1 + 1)) = F at *
        generalize spanL isDigitB (s.toList.drop (n + 1 + 1)) = m at *
        go_wp2_with fail
        refine Calls.mono k1.out ?_
        rintro e w1 ⟨rfl, rfl⟩
        by_cases hm : m = 0
        · subst hm
          rw [if_pos (.inl rfl)] at hM
          go_wp2
          exact bodyPost_ret (v := .tuple #[.int .i64 3, .int .i64 0]) (by simp [results, Tryz.results78, go_sem]) rfl ⟨by rw [hM.out]; try rfl, rfl⟩
        · have d9 : ((m : Int) == 0) = false := by simpa using hm
          go_wp2_with fail
          refine Calls.mono k2.out ?_
          rintro e w2 ⟨rfl, rfl⟩
          cases F with
          | true =>
            rw [if_neg (by simp [hm])] at hM
            go_wp2
            exact bodyPost_ret (v := .tuple #[.int .i64 3, .int .i64 ((n + 1 + 1 + m : Nat) : Int)]) (by simp [results, Tryz.results78, go_sem]) rfl ⟨by rw [hM.out]; try rfl, rfl⟩
          | false =>
            rw [if_pos (.inr rfl)] at hM
            go_wp2
            exact bodyPost_ret (v := .tuple #[.int .i64 3, .int .i64 0]) (by simp [results, Tryz.results78, go_sem]) rfl ⟨by rw [hM.out]; try rfl, rfl⟩
      · have d3 : (((s[n + 1]'h1).toNat : Int) == 45) = false := by simp [hq]
        have hA : Hid (expAt s.toList n = n + 1) := by show _ = _; unfold expAt; rw [hb, if_neg (by omega)]
        clear hb
        go_enter Tryz.func78, Tryz.ntmps78
        have hadd := spanL_drop isDigitB s (n + 1) (by omega)
        obtain ⟨k1, k2⟩ := exp_tail s n (n + 1) (by rw [hA.out]) (by omega) w hs
        have hM : Hid (expM s.toList n = if spanL isDigitB (s.toList.drop (n + 1)) = 0 ∨ fitsGo 0 ((s.toList.take (n + 1 + spanL isDigitB (s.toList.drop (n + 1)))).drop (n + 1)) = false then 0 else n + 1 + spanL isDigitB (s.toList.drop (n + 1))) := by show _ = _; unfold expM; rw [hA.out]
        replace k1 : Hid _ := k1
        replace k2 : Hid _ := k2
        generalize fitsGo 0 ((s.toList.take (n + 1 + spanL isDigitB (s.toList.drop (n + 1)))).drop (n + 1)) = F at *
        generalize spanL isDigitB (s.toList.drop (n + 1)) = m at *
        go_wp2_with fail
        refine Calls.mono k1.out ?_
        rintro e w1 ⟨rfl, rfl⟩
        by_cases hm : m = 0
        · subst hm
          rw [if_pos (.inl rfl)] at hM
          go_wp2
          exact bodyPost_ret (v := .tuple #[.int .i64 3, .int .i64 0]) (by simp [results, Tryz.results78, go_sem]) rfl ⟨by rw [hM.out]; try rfl, rfl⟩
        · have d9 : ((m : Int) == 0) = false := by simpa using hm
          go_wp2_with fail
          refine Calls.mono k2.out ?_
          rintro e w2 ⟨rfl, rfl⟩
          cases F with
          | true =>
            rw [if_neg (by simp [hm])] at hM
            go_wp2
            exact bodyPost_ret (v := .tuple #[.int .i64 3, .int .i64 ((n + 1 + m : Nat) : Int)]) (by simp [results, Tryz.results78, go_sem]) rfl ⟨by rw [hM.out]; try rfl, rfl⟩
          | false =>
            rw [if_pos (.inr rfl)] at hM
            go_wp2
            exact bodyPost_ret (v := .tuple #[.int .i64 3, .int .i64 0]) (by simp [results, Tryz.results78, go_sem]) rfl ⟨by rw [hM.out]; try rfl, rfl⟩
  · have d1 : decide ((n : Int) + 1 < s.size) = false := decide_eq_false (by omega)
    have hA : Hid (expAt s.toList n = n + 1) := by show _ = _; unfold expAt; rw [byteAt_ge s (by omega), if_neg (by decide)]
    go_enter Tryz.func78, Tryz.ntmps78
    have hadd := spanL_drop isDigitB s (n + 1) (by omega)
    obtain ⟨k1, k2⟩ := exp_tail s n (n + 1) (by rw [hA.out]) (by omega) w hs
    have hM : Hid (expM s.toList n = if spanL isDigitB (s.toList.drop (n + 1)) = 0 ∨ fitsGo 0 ((s.toList.take (n + 1 + spanL isDigitB (s.toList.drop (n + 1)))).drop (n + 1)) = false then 0 else n + 1 + spanL isDigitB (s.toList.drop (n + 1))) := by show _ = _; unfold expM; rw [hA.out]
    replace k1 : Hid _ := k1
    replace k2 : Hid _ := k2
    generalize fitsGo 0 ((s.toList.take (n + 1 + spanL isDigitB (s.toList.drop (n + 1)))).drop (n + 1)) = F at *
    generalize spanL isDigitB (s.toList.drop (n + 1)) = m at *
    go_wp2_with fail
    refine Calls.mono k1.out ?_
    rintro e w1 ⟨rfl, rfl⟩
    by_cases hm : m = 0
    · subst hm
      rw [if_pos (.inl rfl)] at hM
      go_wp2
      exact bodyPost_ret (v := .tuple #[.int .i64 3, .int .i64 0]) (by simp [results, Tryz.results78, go_sem]) rfl ⟨by rw [hM.out]; try rfl, rfl⟩
    · have d9 : ((m : Int) == 0) = false := by simpa using hm
      go_wp2_with fail
      refine Calls.mono k2.out ?_
      rintro e w2 ⟨rfl, rfl⟩
      cases F with
      | true =>
        rw [if_neg (by simp [hm])] at hM
        go_wp2
        exact bodyPost_ret (v := .tuple #[.int .i64 3, .int .i64 ((n + 1 + m : Nat) : Int)]) (by simp [results, Tryz.results78, go_sem]) rfl ⟨by rw [hM.out]; try rfl, rfl⟩
      | false =>
        rw [if_pos (.inr rfl)] at hM
        go_wp2
        exact bodyPost_ret (v := .tuple #[.int .i64 3, .int .i64 0]) (by simp [results, Tryz.results78, go_sem]) rfl ⟨by rw [hM.out]; try rfl, rfl⟩
/- Decimal numbers: kind and length. -/
def decimalM (l : List UInt8) : Int × Nat := if byteAt l (digitsM isDigitB l).1 = 101 ∨ byteAt l (digitsM isDigitB l).1 = 69 then (3, expM l (digitsM isDigitB l).1) else if (digitsM isDigitB l).2.2 = true then (3, (digitsM isDigitB l).1) else if 1 < (digitsM isDigitB l).2.1 ∧ byteAt l 0 = 48 then (2, 0) else (2, (digitsM isDigitB l).1)
theorem digitsM_le (p : Int → Bool) (s : ByteArray) : (digitsM p s.toList).1 ≤ s.size ∧ (digitsM p s.toList).2.1 ≤ s.size := by
  unfold digitsM
  have h1 := spanL_len p s
  split
  · rename_i h
    have h2 : spanL p s.toList < s.size := by
      by_cases hc : spanL p s.toList < s.size
      · exact hc
      · rw [byteAt_ge s (by omega)] at h
        omega
    have h3 := spanL_drop p s (spanL p s.toList + 1) (by omega)
    exact ⟨by show _ + 1 + _ ≤ _; omega, by show _ + _ ≤ _; omega⟩
  · exact ⟨h1, h1⟩
set_option maxRecDepth 20000 in
set_option maxHeartbeats 4000000 in
theorem measureDecimal_any (s : ByteArray) (w : World) (h0 : 0 < s.size) (hs : s.size < 4611686018427387904) : Calls Tryz.prog 69 #[.string s] w fun e w' => e = .returned (.tuple #[.int .i64 (decimalM s.toList).1, .int .i64 (decimalM s.toList).2]) ∧ w' = w := by
  have k1 : Hid _ := digits_isDigit s w hs
  obtain ⟨hl1, hl2⟩ := digitsM_le isDigitB s
  have hM : Hid (decimalM s.toList = if byteAt s.toList (digitsM isDigitB s.toList).1 = 101 ∨ byteAt s.toList (digitsM isDigitB s.toList).1 = 69 then (3, expM s.toList (digitsM isDigitB s.toList).1) else if (digitsM isDigitB s.toList).2.2 = true then (3, (digitsM isDigitB s.toList).1) else if 1 < (digitsM isDigitB s.toList).2.1 ∧ byteAt s.toList 0 = 48 then (2, 0) else (2, (digitsM isDigitB s.toList).1)) := rfl
  generalize (digitsM isDigitB s.toList).1 = n at *
  generalize (digitsM isDigitB s.toList).2.1 = d at *
  generalize (digitsM isDigitB s.toList).2.2 = dot at *
  have hz := byteAt_lt s h0
  go_enter Tryz.func69, Tryz.ntmps69
  go_wp2_with fail
  refine Calls.mono k1.out ?_
  rintro e w1 ⟨rfl, rfl⟩
  clear k1
  by_cases hn : n < s.size
  · have d1 : decide ((n : Int) < s.size) = true := decide_eq_true (by omega)
    have hb := byteAt_lt s hn
    have k2 : Hid _ := withExponent_any s n w1 hn hs
    by_cases h1 : ((s[n]'hn).toNat : Int) = 101
    · rw [hb, if_pos (.inl h1)] at hM
      have d2 : (((s[n]'hn).toNat : Int) == 101) = true := by simp [h1]
      clear hb hz
      go_wp2_with fail
      refine Calls.mono k2.out ?_
      rintro e w2 ⟨rfl, rfl⟩
      go_wp2
      exact bodyPost_ret (v := .tuple #[.int .i64 3, .int .i64 (expM s.toList n)]) (by simp [results, Tryz.results69, go_sem]) rfl ⟨by rw [hM.out]; try rfl, rfl⟩
    · have d2 : (((s[n]'hn).toNat : Int) == 101) = false := by simp [h1]
      by_cases h2 : ((s[n]'hn).toNat : Int) = 69
      · rw [hb, if_pos (.inr h2)] at hM
        have d3 : (((s[n]'hn).toNat : Int) == 69) = true := by simp [h2]
        clear hb hz
        go_wp2_with fail
        refine Calls.mono k2.out ?_
        rintro e w2 ⟨rfl, rfl⟩
        go_wp2
        exact bodyPost_ret (v := .tuple #[.int .i64 3, .int .i64 (expM s.toList n)]) (by simp [results, Tryz.results69, go_sem]) rfl ⟨by rw [hM.out]; try rfl, rfl⟩
      · have d3 : (((s[n]'hn).toNat : Int) == 69) = false := by simp [h2]
        rw [hb, if_neg (by omega)] at hM
        clear hb k2
        cases dot with
        | true =>
          rw [if_pos rfl] at hM
          go_wp2
          exact bodyPost_ret (v := .tuple #[.int .i64 3, .int .i64 n]) (by simp [results, Tryz.results69, go_sem]) rfl ⟨by rw [hM.out]; try rfl, rfl⟩
        | false =>
          rw [if_neg (by decide)] at hM
          by_cases h3 : 1 < d
          · have d4 : decide ((d : Int) > 1) = true := decide_eq_true (by omega)
            by_cases h4 : ((s[0]'h0).toNat : Int) = 48
            · have d5 : (((s[0]'h0).toNat : Int) == 48) = true := by simp [h4]
              rw [hz, if_pos ⟨h3, h4⟩] at hM
              clear hz
              go_wp2
              exact bodyPost_ret (v := .tuple #[.int .i64 2, .int .i64 0]) (by simp [results, Tryz.results69, go_sem]) rfl ⟨by rw [hM.out]; try rfl, rfl⟩
            · have d5 : (((s[0]'h0).toNat : Int) == 48) = false := by simp [h4]
              rw [hz, if_neg (fun h => h4 h.2)] at hM
              clear hz
              go_wp2
              exact bodyPost_ret (v := .tuple #[.int .i64 2, .int .i64 n]) (by simp [results, Tryz.results69, go_sem]) rfl ⟨by rw [hM.out]; try rfl, rfl⟩
          · have d4 : decide ((d : Int) > 1) = false := decide_eq_false (by omega)
            rw [if_neg (fun h => h3 h.1)] at hM
            clear hz
            go_wp2
            exact bodyPost_ret (v := .tuple #[.int .i64 2, .int .i64 n]) (by simp [results, Tryz.results69, go_sem]) rfl ⟨by rw [hM.out]; try rfl, rfl⟩
  · have d1 : decide ((n : Int) < s.size) = false := decide_eq_false (by omega)
    rw [byteAt_ge s (by omega), if_neg (by decide)] at hM
    cases dot with
    | true =>
      rw [if_pos rfl] at hM
      go_wp2
      exact bodyPost_ret (v := .tuple #[.int .i64 3, .int .i64 n]) (by simp [results, Tryz.results69, go_sem]) rfl ⟨by rw [hM.out]; try rfl, rfl⟩
    | false =>
      rw [if_neg (by decide)] at hM
      by_cases h3 : 1 < d
      · have d4 : decide ((d : Int) > 1) = true := decide_eq_true (by omega)
        by_cases h4 : ((s[0]'h0).toNat : Int) = 48
        · have d5 : (((s[0]'h0).toNat : Int) == 48) = true := by simp [h4]
          rw [hz, if_pos ⟨h3, h4⟩] at hM
          clear hz
          go_wp2
          exact bodyPost_ret (v := .tuple #[.int .i64 2, .int .i64 0]) (by simp [results, Tryz.results69, go_sem]) rfl ⟨by rw [hM.out]; try rfl, rfl⟩
        · have d5 : (((s[0]'h0).toNat : Int) == 48) = false := by simp [h4]
          rw [hz, if_neg (fun h => h4 h.2)] at hM
          clear hz
          go_wp2
          exact bodyPost_ret (v := .tuple #[.int .i64 2, .int .i64 n]) (by simp [results, Tryz.results69, go_sem]) rfl ⟨by rw [hM.out]; try rfl, rfl⟩
      · have d4 : decide ((d : Int) > 1) = false := decide_eq_false (by omega)
        rw [if_neg (fun h => h3 h.1)] at hM
        clear hz
        go_wp2
        exact bodyPost_ret (v := .tuple #[.int .i64 2, .int .i64 n]) (by simp [results, Tryz.results69, go_sem]) rfl ⟨by rw [hM.out]; try rfl, rfl⟩
def wholeM (p : Int → Bool) (l : List UInt8) : Nat := if spanL p (l.drop 2) = 0 then 0 else 2 + spanL p (l.drop 2)
set_option maxRecDepth 20000 in
set_option maxHeartbeats 4000000 in
theorem whole_isOctal (s : ByteArray) (w : World) (h2 : 2 ≤ s.size) (hs : s.size < 4611686018427387904) : Calls Tryz.prog 71 #[.string s, .func (.func 72) #[] #[]] w fun e w' => e = .returned (.tuple #[.int .i64 2, .int .i64 (wholeM isOctalB s.toList)]) ∧ w' = w := by
  have k1 : Hid _ := span_isOctal (s.extract 2 s.size) w (by rw [ByteArray.size_extract]; omega)
  rw [toList_drop] at k1
  have hle := spanL_drop isOctalB s 2 h2
  have hM : Hid (wholeM isOctalB s.toList = if spanL isOctalB (s.toList.drop 2) = 0 then 0 else 2 + spanL isOctalB (s.toList.drop 2)) := rfl
  generalize spanL isOctalB (s.toList.drop 2) = n at *
  go_enter Tryz.func71, Tryz.ntmps71
  go_wp2_with fail
  refine Calls.mono k1.out ?_
  rintro e w1 ⟨rfl, rfl⟩
  by_cases hn : n = 0
  · subst hn
    rw [if_pos rfl] at hM
    go_wp2
    exact bodyPost_ret (v := .tuple #[.int .i64 2, .int .i64 0]) (by simp [results, Tryz.results71, go_sem]) rfl ⟨by rw [hM.out]; try rfl, rfl⟩
  · have d1 : ((n : Int) == 0) = false := by simpa using hn
    rw [if_neg hn] at hM
    go_wp2
    exact bodyPost_ret (v := .tuple #[.int .i64 2, .int .i64 ((2 + n : Nat) : Int)]) (by simp [results, Tryz.results71, go_sem]) rfl ⟨by rw [hM.out]; try rfl, rfl⟩
set_option maxRecDepth 20000 in
set_option maxHeartbeats 4000000 in
theorem whole_isBinary (s : ByteArray) (w : World) (h2 : 2 ≤ s.size) (hs : s.size < 4611686018427387904) : Calls Tryz.prog 71 #[.string s, .func (.func 73) #[] #[]] w fun e w' => e = .returned (.tuple #[.int .i64 2, .int .i64 (wholeM isBinaryB s.toList)]) ∧ w' = w := by
  have k1 : Hid _ := span_isBinary (s.extract 2 s.size) w (by rw [ByteArray.size_extract]; omega)
  rw [toList_drop] at k1
  have hle := spanL_drop isBinaryB s 2 h2
  have hM : Hid (wholeM isBinaryB s.toList = if spanL isBinaryB (s.toList.drop 2) = 0 then 0 else 2 + spanL isBinaryB (s.toList.drop 2)) := rfl
  generalize spanL isBinaryB (s.toList.drop 2) = n at *
  go_enter Tryz.func71, Tryz.ntmps71
  go_wp2_with fail
  refine Calls.mono k1.out ?_
  rintro e w1 ⟨rfl, rfl⟩
  by_cases hn : n = 0
  · subst hn
    rw [if_pos rfl] at hM
    go_wp2
    exact bodyPost_ret (v := .tuple #[.int .i64 2, .int .i64 0]) (by simp [results, Tryz.results71, go_sem]) rfl ⟨by rw [hM.out]; try rfl, rfl⟩
  · have d1 : ((n : Int) == 0) = false := by simpa using hn
    rw [if_neg hn] at hM
    go_wp2
    exact bodyPost_ret (v := .tuple #[.int .i64 2, .int .i64 ((2 + n : Nat) : Int)]) (by simp [results, Tryz.results71, go_sem]) rfl ⟨by rw [hM.out]; try rfl, rfl⟩
end Go.Proofs.YtffggadmpdmbdaaGreatDoor
