/- scan: names, numbers, operators, lines, comments. -/
import Derived.Test.YtffggadmpdmbdaaGreatDoorSc
import Derived.Test.YtffggadmpdmbdaaGreatDoorSl
namespace Go.Proofs.YtffggadmpdmbdaaGreatDoor
open Go.RowKit
attribute [local go_sem ↓] Go.wp_at_zero Go.wp_at_succ
theorem toList_extract (s : ByteArray) (a b : Nat) : (s.extract a b).toList = (s.toList.take b).drop a := by
  rw [ByteArray.toList_eq, ByteArray.toList_eq, ByteArray.data_extract, Array.toList_extract, List.extract_eq_take_drop, ← List.drop_take]
theorem toList_take (s : ByteArray) (b : Nat) : (s.extract 0 b).toList = s.toList.take b := by rw [toList_extract, List.drop_zero]
theorem toList_drop (s : ByteArray) (a : Nat) : (s.extract a s.size).toList = s.toList.drop a := by
  rw [toList_extract, List.take_of_length_le (by rw [toList_len]; exact Nat.le_refl _)]
/-- The byte at a place, -1 behind the end. -/
def byteAt (l : List UInt8) (k : Nat) : Int := match l.drop k with
  | [] => -1
  | c :: _ => (c.toNat : Int)
theorem byteAt_lt (s : ByteArray) {k : Nat} (h : k < s.size) : byteAt s.toList k = ((s[k]'h).toNat : Int) := by
  unfold byteAt
  rw [drop_at s h]
theorem byteAt_ge (s : ByteArray) {k : Nat} (h : s.size ≤ k) : byteAt s.toList k = -1 := by
  unfold byteAt
  rw [drop_end s h]
theorem spanL_len (p : Int → Bool) (s : ByteArray) : spanL p s.toList ≤ s.size := by rw [← toList_len]; exact spanL_le _ _
theorem spanL_drop (p : Int → Bool) (s : ByteArray) (k : Nat) (h : k ≤ s.size) : k + spanL p (s.toList.drop k) ≤ s.size := by
  have := spanL_le p (s.toList.drop k)
  rw [List.length_drop, toList_len] at this
  omega
def nameM (l : List UInt8) : Int × Nat := (if wordB (l.take (spanL inNameB l)) then 6 else 1, spanL inNameB l)
set_option maxRecDepth 20000 in
set_option maxHeartbeats 2000000 in
theorem measureName_any (s : ByteArray) (w : World) (hs : s.size < 9223372036854775807) : Calls Tryz.prog 53 #[.string s] w fun e w' => e = .returned (.tuple #[.int .i64 (nameM s.toList).1, .int .i64 (nameM s.toList).2]) ∧ w' = w := by
  have k1 : Hid _ := span_inName s w hs
  have hle := spanL_len inNameB s
  have hM : Hid (nameM s.toList = (if wordB (s.toList.take (spanL inNameB s.toList)) then 6 else 1, spanL inNameB s.toList)) := rfl
  generalize spanL inNameB s.toList = n at *
  have k2 : Hid _ := fun w => Word_any (s.extract 0 n) w
  rw [toList_take] at k2
  go_enter Tryz.func53, Tryz.ntmps53
  go_wp2_with fail
  refine Calls.mono k1.out ?_
  rintro e w1 ⟨rfl, rfl⟩
  go_wp2_with fail
  refine Calls.mono (k2.out _) ?_
  rintro e w2 ⟨rfl, rfl⟩
  cases hb : wordB (s.toList.take n) with
  | true =>
    go_wp2
    exact bodyPost_ret (v := .tuple #[.int .i64 6, .int .i64 n]) (by simp [results, Tryz.results53, go_sem]) rfl ⟨by rw [hM.out, hb]; rfl, rfl⟩
  | false =>
    go_wp2
    exact bodyPost_ret (v := .tuple #[.int .i64 1, .int .i64 n]) (by simp [results, Tryz.results53, go_sem]) rfl ⟨by rw [hM.out, hb]; rfl, rfl⟩
/-- The longest operator. -/
def opM (l : List UInt8) : Nat := if 3 ≤ l.length ∧ opB (l.take 3) = true then 3 else if 2 ≤ l.length ∧ opB (l.take 2) = true then 2 else if 1 ≤ l.length ∧ opB (l.take 1) = true then 1 else 0
def digitsM (p : Int → Bool) (l : List UInt8) : Nat × Nat × Bool := if byteAt l (spanL p l) = 46 then (spanL p l + 1 + spanL p (l.drop (spanL p l + 1)), spanL p l + spanL p (l.drop (spanL p l + 1)), true) else (spanL p l, spanL p l, false)
set_option maxRecDepth 20000 in
set_option maxHeartbeats 2000000 in
theorem digits_isDigit (s : ByteArray) (w : World) (hs : s.size < 4611686018427387904) : Calls Tryz.prog 77 #[.string s, .func (.func 54) #[] #[]] w fun e w' => e = .returned (.tuple #[.int .i64 (digitsM isDigitB s.toList).1, .int .i64 (digitsM isDigitB s.toList).2.1, .bool (digitsM isDigitB s.toList).2.2]) ∧ w' = w := by
  have k1 : Hid _ := span_isDigit s w (by omega)
  have hle := spanL_len isDigitB s
  have hM : Hid (digitsM isDigitB s.toList = if byteAt s.toList (spanL isDigitB s.toList) = 46 then (spanL isDigitB s.toList + 1 + spanL isDigitB (s.toList.drop (spanL isDigitB s.toList + 1)), spanL isDigitB s.toList + spanL isDigitB (s.toList.drop (spanL isDigitB s.toList + 1)), true) else (spanL isDigitB s.toList, spanL isDigitB s.toList, false)) := rfl
  generalize spanL isDigitB s.toList = n at *
  go_enter Tryz.func77, Tryz.ntmps77
  go_wp2_with fail
  refine Calls.mono k1.out ?_
  rintro e w1 ⟨rfl, rfl⟩
  by_cases hn : n < s.size
  · have d1 : ((n : Int) == s.size) = false := by simp; omega
    have hb := byteAt_lt s hn
    have hm := spanL_drop isDigitB s (n + 1) (by omega)
    have k2 : Hid _ := fun w => span_isDigit (s.extract (n + 1) s.size) w (by rw [ByteArray.size_extract]; omega)
    rw [toList_drop] at k2
    by_cases hd : ((s[n]'hn).toNat : Int) = 46
    · rw [hd] at hb
      rw [hb, if_pos rfl] at hM
      generalize spanL isDigitB (s.toList.drop (n + 1)) = m at *
      have d2 : (((s[n]'hn).toNat : Int) != 46) = false := by simp [hd]
      clear hb
      go_wp2_with fail
      refine Calls.mono (k2.out _) ?_
      rintro e w2 ⟨rfl, rfl⟩
      go_wp2
      exact bodyPost_ret (v := .tuple #[.int .i64 ((n + 1 + m : Nat) : Int), .int .i64 ((n + m : Nat) : Int), .bool true]) (by simp [results, Tryz.results77, go_sem]) rfl ⟨by rw [hM.out], rfl⟩
    · have d2 : (((s[n]'hn).toNat : Int) != 46) = true := by simp [hd]
      rw [hb, if_neg hd] at hM
      clear hb k2
      go_wp2
      exact bodyPost_ret (v := .tuple #[.int .i64 n, .int .i64 n, .bool false]) (by simp [results, Tryz.results77, go_sem]) rfl ⟨by rw [hM.out], rfl⟩
  · have d1 : ((n : Int) == s.size) = true := by simp; omega
    rw [byteAt_ge s (by omega), if_neg (by decide)] at hM
    go_wp2
    exact bodyPost_ret (v := .tuple #[.int .i64 n, .int .i64 n, .bool false]) (by simp [results, Tryz.results77, go_sem]) rfl ⟨by rw [hM.out], rfl⟩
set_option maxRecDepth 20000 in
set_option maxHeartbeats 2000000 in
theorem digits_isHex (s : ByteArray) (w : World) (hs : s.size < 4611686018427387904) : Calls Tryz.prog 77 #[.string s, .func (.func 79) #[] #[]] w fun e w' => e = .returned (.tuple #[.int .i64 (digitsM isHexB s.toList).1, .int .i64 (digitsM isHexB s.toList).2.1, .bool (digitsM isHexB s.toList).2.2]) ∧ w' = w := by
  have k1 : Hid _ := span_isHex s w (by omega)
  have hle := spanL_len isHexB s
  have hM : Hid (digitsM isHexB s.toList = if byteAt s.toList (spanL isHexB s.toList) = 46 then (spanL isHexB s.toList + 1 + spanL isHexB (s.toList.drop (spanL isHexB s.toList + 1)), spanL isHexB s.toList + spanL isHexB (s.toList.drop (spanL isHexB s.toList + 1)), true) else (spanL isHexB s.toList, spanL isHexB s.toList, false)) := rfl
  generalize spanL isHexB s.toList = n at *
  go_enter Tryz.func77, Tryz.ntmps77
  go_wp2_with fail
  refine Calls.mono k1.out ?_
  rintro e w1 ⟨rfl, rfl⟩
  by_cases hn : n < s.size
  · have d1 : ((n : Int) == s.size) = false := by simp; omega
    have hb := byteAt_lt s hn
    have hm := spanL_drop isHexB s (n + 1) (by omega)
    have k2 : Hid _ := fun w => span_isHex (s.extract (n + 1) s.size) w (by rw [ByteArray.size_extract]; omega)
    rw [toList_drop] at k2
    by_cases hd : ((s[n]'hn).toNat : Int) = 46
    · rw [hd] at hb
      rw [hb, if_pos rfl] at hM
      generalize spanL isHexB (s.toList.drop (n + 1)) = m at *
      have d2 : (((s[n]'hn).toNat : Int) != 46) = false := by simp [hd]
      clear hb
      go_wp2_with fail
      refine Calls.mono (k2.out _) ?_
      rintro e w2 ⟨rfl, rfl⟩
      go_wp2
      exact bodyPost_ret (v := .tuple #[.int .i64 ((n + 1 + m : Nat) : Int), .int .i64 ((n + m : Nat) : Int), .bool true]) (by simp [results, Tryz.results77, go_sem]) rfl ⟨by rw [hM.out], rfl⟩
    · have d2 : (((s[n]'hn).toNat : Int) != 46) = true := by simp [hd]
      rw [hb, if_neg hd] at hM
      clear hb k2
      go_wp2
      exact bodyPost_ret (v := .tuple #[.int .i64 n, .int .i64 n, .bool false]) (by simp [results, Tryz.results77, go_sem]) rfl ⟨by rw [hM.out], rfl⟩
  · have d1 : ((n : Int) == s.size) = true := by simp; omega
    rw [byteAt_ge s (by omega), if_neg (by decide)] at hM
    go_wp2
    exact bodyPost_ret (v := .tuple #[.int .i64 n, .int .i64 n, .bool false]) (by simp [results, Tryz.results77, go_sem]) rfl ⟨by rw [hM.out], rfl⟩
end Go.Proofs.YtffggadmpdmbdaaGreatDoor
