/- scan: numbers of any base; operators; lines and comments. -/
import Derived.Test.YtffggadmpdmbdaaGreatDoorSe
namespace Go.Proofs.YtffggadmpdmbdaaGreatDoor
open Go.RowKit
attribute [local go_sem ↓] Go.wp_at_zero Go.wp_at_succ
def hexM (l : List UInt8) : Int × Nat := if (digitsM isHexB (l.drop 2)).2.1 = 0 then (2, 0) else if byteAt l ((digitsM isHexB (l.drop 2)).1 + 2) = 112 ∨ byteAt l ((digitsM isHexB (l.drop 2)).1 + 2) = 80 then (3, expM l ((digitsM isHexB (l.drop 2)).1 + 2)) else if (digitsM isHexB (l.drop 2)).2.2 = true then (3, 0) else (2, (digitsM isHexB (l.drop 2)).1 + 2)
set_option maxRecDepth 20000 in
set_option maxHeartbeats 4000000 in
theorem measureHex_any (s : ByteArray) (w : World) (h0 : 2 ≤ s.size) (hs : s.size < 4611686018427387904) : Calls Tryz.prog 70 #[.string s] w fun e w' => e = .returned (.tuple #[.int .i64 (hexM s.toList).1, .int .i64 (hexM s.toList).2]) ∧ w' = w := by
  have k1 : Hid _ := digits_isHex (s.extract 2 s.size) w (by rw [ByteArray.size_extract]; omega)
  obtain ⟨hl1, hl2⟩ := digitsM_le isHexB (s.extract 2 s.size)
  rw [toList_drop] at k1 hl1 hl2
  rw [ByteArray.size_extract] at hl1 hl2
  have hM : Hid (hexM s.toList = if (digitsM isHexB (s.toList.drop 2)).2.1 = 0 then (2, 0) else if byteAt s.toList ((digitsM isHexB (s.toList.drop 2)).1 + 2) = 112 ∨ byteAt s.toList ((digitsM isHexB (s.toList.drop 2)).1 + 2) = 80 then (3, expM s.toList ((digitsM isHexB (s.toList.drop 2)).1 + 2)) else if (digitsM isHexB (s.toList.drop 2)).2.2 = true then (3, 0) else (2, (digitsM isHexB (s.toList.drop 2)).1 + 2)) := rfl
  generalize (digitsM isHexB (s.toList.drop 2)).1 = n at *
  generalize (digitsM isHexB (s.toList.drop 2)).2.1 = d at *
  generalize (digitsM isHexB (s.toList.drop 2)).2.2 = dot at *
  go_enter Tryz.func70, Tryz.ntmps70
  go_wp2_with fail
  refine Calls.mono k1.out ?_
  rintro e w1 ⟨rfl, rfl⟩
  clear k1
  by_cases hd : d = 0
  · subst hd
    rw [if_pos rfl] at hM
    go_wp2
    exact bodyPost_ret (v := .tuple #[.int .i64 2, .int .i64 0]) (by simp [results, Tryz.results70, go_sem]) rfl ⟨by rw [hM.out]; try rfl, rfl⟩
  · have d0 : ((d : Int) == 0) = false := by simpa using hd
    rw [if_neg hd] at hM
    by_cases hn : n + 2 < s.size
    · have d1 : decide ((n : Int) + 2 < s.size) = true := decide_eq_true (by omega)
      have hb := byteAt_lt s hn
      have k2 : Hid _ := withExponent_any s (n + 2) w1 hn hs
      by_cases h1 : ((s[n + 2]'hn).toNat : Int) = 112
      · rw [hb, if_pos (.inl h1)] at hM
        have d2 : (((s[n + 2]'hn).toNat : Int) == 112) = true := by simp [h1]
        clear hb
        go_wp2_with fail
        refine Calls.mono k2.out ?_
        rintro e w2 ⟨rfl, rfl⟩
        go_wp2
        exact bodyPost_ret (v := .tuple #[.int .i64 3, .int .i64 (expM s.toList (n + 2))]) (by simp [results, Tryz.results70, go_sem]) rfl ⟨by rw [hM.out]; try rfl, rfl⟩
      · have d2 : (((s[n + 2]'hn).toNat : Int) == 112) = false := by simp [h1]
        by_cases h2 : ((s[n + 2]'hn).toNat : Int) = 80
        · rw [hb, if_pos (.inr h2)] at hM
          have d3 : (((s[n + 2]'hn).toNat : Int) == 80) = true := by simp [h2]
          clear hb
          go_wp2_with fail
          refine Calls.mono k2.out ?_
          rintro e w2 ⟨rfl, rfl⟩
          go_wp2
          exact bodyPost_ret (v := .tuple #[.int .i64 3, .int .i64 (expM s.toList (n + 2))]) (by simp [results, Tryz.results70, go_sem]) rfl ⟨by rw [hM.out]; try rfl, rfl⟩
        · have d3 : (((s[n + 2]'hn).toNat : Int) == 80) = false := by simp [h2]
          rw [hb, if_neg (by omega)] at hM
          clear hb k2
          cases dot with
          | true =>
            rw [if_pos rfl] at hM
            go_wp2
            exact bodyPost_ret (v := .tuple #[.int .i64 3, .int .i64 0]) (by simp [results, Tryz.results70, go_sem]) rfl ⟨by rw [hM.out]; try rfl, rfl⟩
          | false =>
            rw [if_neg (by decide)] at hM
            go_wp2
            exact bodyPost_ret (v := .tuple #[.int .i64 2, .int .i64 ((n + 2 : Nat) : Int)]) (by simp [results, Tryz.results70, go_sem]) rfl ⟨by rw [hM.out]; try rfl, rfl⟩
    · have d1 : decide ((n : Int) + 2 < s.size) = false := decide_eq_false (by omega)
      rw [byteAt_ge s (by omega), if_neg (by decide)] at hM
      cases dot with
      | true =>
        rw [if_pos rfl] at hM
        go_wp2
        exact bodyPost_ret (v := .tuple #[.int .i64 3, .int .i64 0]) (by simp [results, Tryz.results70, go_sem]) rfl ⟨by rw [hM.out]; try rfl, rfl⟩
      | false =>
        rw [if_neg (by decide)] at hM
        go_wp2
        exact bodyPost_ret (v := .tuple #[.int .i64 2, .int .i64 ((n + 2 : Nat) : Int)]) (by simp [results, Tryz.results70, go_sem]) rfl ⟨by rw [hM.out]; try rfl, rfl⟩
def basedM (l : List UInt8) : Int × Nat := if byteAt l 0 ≠ 48 ∨ l.length < 2 then decimalM l else if byteAt l 1 = 120 ∨ byteAt l 1 = 88 then hexM l else if byteAt l 1 = 111 ∨ byteAt l 1 = 79 then (2, wholeM isOctalB l) else if byteAt l 1 = 98 ∨ byteAt l 1 = 66 then (2, wholeM isBinaryB l) else decimalM l
set_option maxRecDepth 20000 in
set_option maxHeartbeats 4000000 in
theorem measureBased_any (s : ByteArray) (w : World) (h0 : 0 < s.size) (hs : s.size < 4611686018427387904) : Calls Tryz.prog 63 #[.string s] w fun e w' => e = .returned (.tuple #[.int .i64 (basedM s.toList).1, .int .i64 (basedM s.toList).2]) ∧ w' = w := by
  have kd : Hid _ := measureDecimal_any s w h0 hs
  have hz := byteAt_lt s h0
  have hM : Hid (basedM s.toList = if byteAt s.toList 0 ≠ 48 ∨ s.toList.length < 2 then decimalM s.toList else if byteAt s.toList 1 = 120 ∨ byteAt s.toList 1 = 88 then hexM s.toList else if byteAt s.toList 1 = 111 ∨ byteAt s.toList 1 = 79 then (2, wholeM isOctalB s.toList) else if byteAt s.toList 1 = 98 ∨ byteAt s.toList 1 = 66 then (2, wholeM isBinaryB s.toList) else decimalM s.toList) := rfl
  rw [toList_len, hz] at hM
  clear hz
  go_enter Tryz.func63, Tryz.ntmps63
  by_cases c0 : ((s[0]'h0).toNat : Int) = 48
  · have e0 : (((s[0]'h0).toNat : Int) != 48) = false := by simp [c0]
    by_cases h1 : 1 < s.size
    · have d1 : decide ((s.size : Int) < 2) = false := decide_eq_false (by omega)
      have hb := byteAt_lt s h1
      rw [hb, if_neg (by omega)] at hM
      clear hb
      have kh : Hid _ := measureHex_any s w h1 hs
      have ko : Hid _ := whole_isOctal s w h1 hs
      have kb : Hid _ := whole_isBinary s w h1 hs
      by_cases c120 : ((s[1]'h1).toNat : Int) = 120
      · have e120 : (((s[1]'h1).toNat : Int) == 120) = true := by simp [c120]
        rw [if_pos (.inl c120)] at hM
        go_wp2_with fail
        refine Calls.mono kh.out ?_
        rintro e w2 ⟨rfl, rfl⟩
        go_wp2
        exact bodyPost_ret (v := .tuple #[.int .i64 (hexM s.toList).1, .int .i64 (hexM s.toList).2]) (by simp [results, Tryz.results63, go_sem]) rfl ⟨by rw [hM.out]; try rfl, rfl⟩
      · have e120 : (((s[1]'h1).toNat : Int) == 120) = false := by simp [c120]
        by_cases c88 : ((s[1]'h1).toNat : Int) = 88
        · have e88 : (((s[1]'h1).toNat : Int) == 88) = true := by simp [c88]
          rw [if_pos (.inr c88)] at hM
          go_wp2_with fail
          refine Calls.mono kh.out ?_
          rintro e w2 ⟨rfl, rfl⟩
          go_wp2
          exact bodyPost_ret (v := .tuple #[.int .i64 (hexM s.toList).1, .int .i64 (hexM s.toList).2]) (by simp [results, Tryz.results63, go_sem]) rfl ⟨by rw [hM.out]; try rfl, rfl⟩
        · have e88 : (((s[1]'h1).toNat : Int) == 88) = false := by simp [c88]
          by_cases c111 : ((s[1]'h1).toNat : Int) = 111
          · have e111 : (((s[1]'h1).toNat : Int) == 111) = true := by simp [c111]
            rw [if_neg (by omega), if_pos (.inl c111)] at hM
            go_wp2_with fail
            refine Calls.mono ko.out ?_
            rintro e w2 ⟨rfl, rfl⟩
            go_wp2
            exact bodyPost_ret (v := .tuple #[.int .i64 2, .int .i64 (wholeM isOctalB s.toList)]) (by simp [results, Tryz.results63, go_sem]) rfl ⟨by rw [hM.out]; try rfl, rfl⟩
          · have e111 : (((s[1]'h1).toNat : Int) == 111) = false := by simp [c111]
            by_cases c79 : ((s[1]'h1).toNat : Int) = 79
            · have e79 : (((s[1]'h1).toNat : Int) == 79) = true := by simp [c79]
              rw [if_neg (by omega), if_pos (.inr c79)] at hM
              go_wp2_with fail
              refine Calls.mono ko.out ?_
              rintro e w2 ⟨rfl, rfl⟩
              go_wp2
              exact bodyPost_ret (v := .tuple #[.int .i64 2, .int .i64 (wholeM isOctalB s.toList)]) (by simp [results, Tryz.results63, go_sem]) rfl ⟨by rw [hM.out]; try rfl, rfl⟩
            · have e79 : (((s[1]'h1).toNat : Int) == 79) = false := by simp [c79]
              by_cases c98 : ((s[1]'h1).toNat : Int) = 98
              · have e98 : (((s[1]'h1).toNat : Int) == 98) = true := by simp [c98]
                rw [if_neg (by omega), if_neg (by omega), if_pos (.inl c98)] at hM
                go_wp2_with fail
                refine Calls.mono kb.out ?_
                rintro e w2 ⟨rfl, rfl⟩
                go_wp2
                exact bodyPost_ret (v := .tuple #[.int .i64 2, .int .i64 (wholeM isBinaryB s.toList)]) (by simp [results, Tryz.results63, go_sem]) rfl ⟨by rw [hM.out]; try rfl, rfl⟩
              · have e98 : (((s[1]'h1).toNat : Int) == 98) = false := by simp [c98]
                by_cases c66 : ((s[1]'h1).toNat : Int) = 66
                · have e66 : (((s[1]'h1).toNat : Int) == 66) = true := by simp [c66]
                  rw [if_neg (by omega), if_neg (by omega), if_pos (.inr c66)] at hM
                  go_wp2_with fail
                  refine Calls.mono kb.out ?_
                  rintro e w2 ⟨rfl, rfl⟩
                  go_wp2
                  exact bodyPost_ret (v := .tuple #[.int .i64 2, .int .i64 (wholeM isBinaryB s.toList)]) (by simp [results, Tryz.results63, go_sem]) rfl ⟨by rw [hM.out]; try rfl, rfl⟩
                · have e66 : (((s[1]'h1).toNat : Int) == 66) = false := by simp [c66]
                  rw [if_neg (by omega), if_neg (by omega), if_neg (by omega)] at hM
                  go_wp2_with fail
                  refine Calls.mono kd.out ?_
                  rintro e w2 ⟨rfl, rfl⟩
                  go_wp2
                  exact bodyPost_ret (v := .tuple #[.int .i64 (decimalM s.toList).1, .int .i64 (decimalM s.toList).2]) (by simp [results, Tryz.results63, go_sem]) rfl ⟨by rw [hM.out]; try rfl, rfl⟩
    · have d1 : decide ((s.size : Int) < 2) = true := decide_eq_true (by omega)
      rw [if_pos (.inr (by omega))] at hM
      go_wp2_with fail
      refine Calls.mono kd.out ?_
      rintro e w2 ⟨rfl, rfl⟩
      go_wp2
      exact bodyPost_ret (v := .tuple #[.int .i64 (decimalM s.toList).1, .int .i64 (decimalM s.toList).2]) (by simp [results, Tryz.results63, go_sem]) rfl ⟨by rw [hM.out]; try rfl, rfl⟩
  · have e0 : (((s[0]'h0).toNat : Int) != 48) = true := by simp [c0]
    rw [if_pos (.inl c0)] at hM
    go_wp2_with fail
    refine Calls.mono kd.out ?_
    rintro e w2 ⟨rfl, rfl⟩
    go_wp2
    exact bodyPost_ret (v := .tuple #[.int .i64 (decimalM s.toList).1, .int .i64 (decimalM s.toList).2]) (by simp [results, Tryz.results63, go_sem]) rfl ⟨by rw [hM.out]; try rfl, rfl⟩
theorem expM_le (s : ByteArray) (n : Nat) (hn : n < s.size) : expM s.toList n ≤ s.size := by
  unfold expM
  have h1 : expAt s.toList n ≤ s.size := by
    unfold expAt
    split
    · rename_i h
      by_cases hc : n + 1 < s.size
      · omega
      · rw [byteAt_ge s (by omega)] at h
        omega
    · omega
  have h2 := spanL_drop isDigitB s (expAt s.toList n) h1
  split
  · exact Nat.zero_le _
  · exact h2
theorem byteAt_in (s : ByteArray) (n : Nat) (h : 0 ≤ byteAt s.toList n) : n < s.size := by
  by_cases hc : n < s.size
  · exact hc
  · rw [byteAt_ge s (by omega)] at h
    omega
theorem decimalM_le (s : ByteArray) : (decimalM s.toList).2 ≤ s.size := by
  have h1 := (digitsM_le isDigitB s).1
  unfold decimalM
  split
  · rename_i h
    exact expM_le s _ (byteAt_in s _ (by omega))
  · split
    · exact h1
    · split
      · exact Nat.zero_le _
      · exact h1
theorem hexM_le (s : ByteArray) (h0 : 2 ≤ s.size) : (hexM s.toList).2 ≤ s.size := by
  have h1 := (digitsM_le isHexB (s.extract 2 s.size)).1
  rw [toList_drop, ByteArray.size_extract] at h1
  unfold hexM
  split
  · exact Nat.zero_le _
  · split
    · rename_i h
      exact expM_le s _ (byteAt_in s _ (by omega))
    · split
      · exact Nat.zero_le _
      · show _ + 2 ≤ _
        omega
theorem wholeM_le (p : Int → Bool) (s : ByteArray) (h0 : 2 ≤ s.size) : wholeM p s.toList ≤ s.size := by
  have := spanL_drop p s 2 h0
  unfold wholeM
  split
  · exact Nat.zero_le _
  · exact this
theorem basedM_le (s : ByteArray) : (basedM s.toList).2 ≤ s.size := by
  unfold basedM
  rw [toList_len]
  split
  · exact decimalM_le s
  · split
    · exact hexM_le s (by omega)
    · split
      · exact wholeM_le _ s (by omega)
      · split
        · exact wholeM_le _ s (by omega)
        · exact decimalM_le s
def numberM (l : List UInt8) : Int × Nat := if inNameB (byteAt l (basedM l).2) = true ∨ byteAt l (basedM l).2 = 46 then ((basedM l).1, 0) else basedM l
theorem inName_none : inNameB (-1) = false := by decide
set_option maxRecDepth 20000 in
set_option maxHeartbeats 4000000 in
theorem measureNumber_any (s : ByteArray) (w : World) (h0 : 0 < s.size) (hs : s.size < 4611686018427387904) : Calls Tryz.prog 55 #[.string s] w fun e w' => e = .returned (.tuple #[.int .i64 (numberM s.toList).1, .int .i64 (numberM s.toList).2]) ∧ w' = w := by
  have k1 : Hid _ := measureBased_any s w h0 hs
  have hle := basedM_le s
  have hM : Hid (numberM s.toList = if inNameB (byteAt s.toList (basedM s.toList).2) = true ∨ byteAt s.toList (basedM s.toList).2 = 46 then ((basedM s.toList).1, 0) else ((basedM s.toList).1, (basedM s.toList).2)) := rfl
  generalize (basedM s.toList).1 = kd at *
  generalize (basedM s.toList).2 = n at *
  go_enter Tryz.func55, Tryz.ntmps55
  go_wp2_with fail
  refine Calls.mono k1.out ?_
  rintro e w1 ⟨rfl, rfl⟩
  by_cases hn : n < s.size
  · have d1 : decide ((n : Int) < s.size) = true := decide_eq_true (by omega)
    have hb := byteAt_lt s hn
    have k2 : Hid _ := fun w => inName_any ((s[n]'hn).toNat : Int) w
    rw [hb] at hM
    clear hb
    go_wp2_with fail
    refine Calls.mono (k2.out _) ?_
    rintro e w2 ⟨rfl, rfl⟩
    cases hi : inNameB ((s[n]'hn).toNat : Int) with
    | true =>
      rw [if_pos (.inl hi)] at hM
      go_wp2
      exact bodyPost_ret (v := .tuple #[.int .i64 kd, .int .i64 0]) (by simp [results, Tryz.results55, go_sem]) rfl ⟨by rw [hM.out]; try rfl, rfl⟩
    | false =>
      by_cases h4 : ((s[n]'hn).toNat : Int) = 46
      · have d2 : (((s[n]'hn).toNat : Int) == 46) = true := by simp [h4]
        rw [if_pos (.inr h4)] at hM
        clear hi
        go_wp2
        exact bodyPost_ret (v := .tuple #[.int .i64 kd, .int .i64 0]) (by simp [results, Tryz.results55, go_sem]) rfl ⟨by rw [hM.out]; try rfl, rfl⟩
      · have d2 : (((s[n]'hn).toNat : Int) == 46) = false := by simp [h4]
        rw [if_neg (by rw [hi]; simp [h4])] at hM
        clear hi
        go_wp2
        exact bodyPost_ret (v := .tuple #[.int .i64 kd, .int .i64 n]) (by simp [results, Tryz.results55, go_sem]) rfl ⟨by rw [hM.out]; try rfl, rfl⟩
  · have d1 : decide ((n : Int) < s.size) = false := decide_eq_false (by omega)
    rw [byteAt_ge s (by omega), inName_none, if_neg (by decide)] at hM
    go_wp2
    exact bodyPost_ret (v := .tuple #[.int .i64 kd, .int .i64 n]) (by simp [results, Tryz.results55, go_sem]) rfl ⟨by rw [hM.out]; try rfl, rfl⟩
end Go.Proofs.YtffggadmpdmbdaaGreatDoor
