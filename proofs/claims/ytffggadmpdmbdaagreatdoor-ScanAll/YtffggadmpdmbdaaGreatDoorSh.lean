/- scan: pieces of strings, strings; all tokens. -/
import Derived.Test.YtffggadmpdmbdaaGreatDoorTc
import Derived.Lib.RuneCount
namespace Go.Proofs.YtffggadmpdmbdaaGreatDoor
open Go.RowKit
attribute [local go_sem ↓] Go.wp_at_zero Go.wp_at_succ
/-- A rune at the beginning: it, its length. -/
def runeL (l : List UInt8) : Nat × Nat := Lib.decodeN l.length (l[0]?.getD 0).toNat (l[1]?.getD 0).toNat (l[2]?.getD 0).toNat (l[3]?.getD 0).toNat
theorem get_at (s : ByteArray) (i : Nat) : s.get! i = s.toList[i]?.getD 0 := by
  rw [ByteArray.toList_eq]
  show s.data[i]! = _
  rw [Array.getElem!_eq_getD, Array.getD_eq_getD_getElem?, Array.getElem?_toList]
  rfl
theorem runeL_eq (s : ByteArray) (h : 0 < s.size) : Lib.decodeGo s = runeL s.toList := by
  unfold Lib.decodeGo runeL
  rw [if_neg (by omega), Lib.decode_at, toList_len, get_at, get_at, get_at, get_at]
  rfl
theorem runeL_le (s : ByteArray) (h : 0 < s.size) : (runeL s.toList).2 ≤ s.size ∧ 1 ≤ (runeL s.toList).2 := by
  rw [← runeL_eq s h]
  unfold Lib.decodeGo
  rw [if_neg (by omega)]
  exact ⟨Lib.width_le s h, Lib.decode_width_pos s 0 h⟩
/-- An escape: what it says, its length. -/
def escM (l : List UInt8) : Option (List UInt8 × Nat) :=
  if l.length < 2 then some ([], 0) else if byteAt l 1 = 92 ∨ byteAt l 1 = 34 then some ((l.take 2).drop 1, 2) else if byteAt l 1 = 110 then some ([10], 2) else if byteAt l 1 = 116 then some ([9], 2) else if byteAt l 1 = 120 then some (byteM l) else if byteAt l 1 = 117 then some (pointM l) else some ([], 0)
set_option maxRecDepth 20000 in
set_option maxHeartbeats 4000000 in
theorem readEscape_any (s : ByteArray) (w : World) (hG : Glob w) (t : List UInt8) (n : Nat) (hM : escM s.toList = some (t, n)) (hs : s.size < 4611686018427387904) : Calls Tryz.prog 38 #[.string s] w fun e w' => ∃ b : ByteArray, e = .returned (.tuple #[.string b, .int .i64 n]) ∧ b.toList = t ∧ Below w.heap.size w w' := by
  unfold escM at hM
  rw [toList_len] at hM
  go_enter Tryz.func38, Tryz.ntmps38
  by_cases h1 : 1 < s.size
  · have d1 : decide ((s.size : Int) < 2) = false := decide_eq_false (by omega)
    rw [if_neg (by omega), byteAt_lt s h1] at hM
    by_cases c92 : ((s[1]'h1).toNat : Int) = 92
    · have e92 : (((s[1]'h1).toNat : Int) == 92) = true := by simp [c92]
      rw [if_pos (.inl c92)] at hM
      obtain ⟨ht, hn9⟩ := Prod.mk.inj (Option.some.inj hM)
      subst ht
      subst hn9
      go_wp2
      exact bodyPost_ret (v := .tuple #[.string (s.extract 1 2), .int .i64 2]) (by simp [results, Tryz.results38, go_sem]) rfl ⟨(s.extract 1 2), by rfl, by first | (exact toList_extract _ _ _) | (rw [toList_extract]; simp; done) | (rw [ByteArray.toList_eq]), Below.refl _ _⟩
    · have e92 : (((s[1]'h1).toNat : Int) == 92) = false := by simp [c92]
      by_cases c34 : ((s[1]'h1).toNat : Int) = 34
      · have e34 : (((s[1]'h1).toNat : Int) == 34) = true := by simp [c34]
        rw [if_pos (.inr c34)] at hM
        obtain ⟨ht, hn9⟩ := Prod.mk.inj (Option.some.inj hM)
        subst ht
        subst hn9
        go_wp2
        exact bodyPost_ret (v := .tuple #[.string (s.extract 1 2), .int .i64 2]) (by simp [results, Tryz.results38, go_sem]) rfl ⟨(s.extract 1 2), by rfl, by first | (exact toList_extract _ _ _) | (rw [toList_extract]; simp; done) | (rw [ByteArray.toList_eq]), Below.refl _ _⟩
      · have e34 : (((s[1]'h1).toNat : Int) == 34) = false := by simp [c34]
        by_cases c110 : ((s[1]'h1).toNat : Int) = 110
        · have e110 : (((s[1]'h1).toNat : Int) == 110) = true := by simp [c110]
          rw [if_neg (by omega), if_pos c110] at hM
          obtain ⟨ht, hn9⟩ := Prod.mk.inj (Option.some.inj hM)
          subst ht
          subst hn9
          go_wp2
          exact bodyPost_ret (v := .tuple #[.string ⟨#[10]⟩, .int .i64 2]) (by simp [results, Tryz.results38, go_sem]) rfl ⟨⟨#[10]⟩, by rfl, by first | (exact toList_extract _ _ _) | (rw [toList_extract]; simp; done) | (rw [ByteArray.toList_eq]), Below.refl _ _⟩
        · have e110 : (((s[1]'h1).toNat : Int) == 110) = false := by simp [c110]
          by_cases c116 : ((s[1]'h1).toNat : Int) = 116
          · have e116 : (((s[1]'h1).toNat : Int) == 116) = true := by simp [c116]
            rw [if_neg (by omega), if_neg (by omega), if_pos c116] at hM
            obtain ⟨ht, hn9⟩ := Prod.mk.inj (Option.some.inj hM)
            subst ht
            subst hn9
            go_wp2
            exact bodyPost_ret (v := .tuple #[.string ⟨#[9]⟩, .int .i64 2]) (by simp [results, Tryz.results38, go_sem]) rfl ⟨⟨#[9]⟩, by rfl, by first | (exact toList_extract _ _ _) | (rw [toList_extract]; simp; done) | (rw [ByteArray.toList_eq]), Below.refl _ _⟩
          · have e116 : (((s[1]'h1).toNat : Int) == 116) = false := by simp [c116]
            by_cases c120 : ((s[1]'h1).toNat : Int) = 120
            · have e120 : (((s[1]'h1).toNat : Int) == 120) = true := by simp [c120]
              rw [if_neg (by omega), if_neg (by omega), if_neg (by omega), if_pos c120] at hM
              have kb : Hid _ := readByte_any s w hG hs
              rw [Option.some.inj hM] at kb
              clear hM hG c120 c116 c110 c34 c92
              go_wp2_with fail
              refine Calls.mono kb.out ?_
              rintro e w2 ⟨b, rfl, hb, hB⟩
              clear kb
              go_wp2
              exact bodyPost_ret (v := .tuple #[.string b, .int .i64 n]) (by simp [results, Tryz.results38, go_sem]) rfl ⟨b, rfl, hb, hB⟩
            · have e120 : (((s[1]'h1).toNat : Int) == 120) = false := by simp [c120]
              by_cases c117 : ((s[1]'h1).toNat : Int) = 117
              · have e117 : (((s[1]'h1).toNat : Int) == 117) = true := by simp [c117]
                rw [if_neg (by omega), if_neg (by omega), if_neg (by omega), if_neg (by omega), if_pos c117] at hM
                have kb : Hid _ := readPoint_any s w hG hs
                rw [Option.some.inj hM] at kb
                clear hM hG c117 c120 c116 c110 c34 c92
                go_wp2_with fail
                refine Calls.mono kb.out ?_
                rintro e w2 ⟨b, rfl, hb, hB⟩
                clear kb
                go_wp2
                exact bodyPost_ret (v := .tuple #[.string b, .int .i64 n]) (by simp [results, Tryz.results38, go_sem]) rfl ⟨b, rfl, hb, hB⟩
              · have e117 : (((s[1]'h1).toNat : Int) == 117) = false := by simp [c117]
                rw [if_neg (by omega), if_neg (by omega), if_neg (by omega), if_neg (by omega), if_neg (by omega)] at hM
                obtain ⟨ht, hn9⟩ := Prod.mk.inj (Option.some.inj hM)
                subst ht
                subst hn9
                go_wp2
                exact bodyPost_ret (v := .tuple #[.string ⟨#[]⟩, .int .i64 0]) (by simp [results, Tryz.results38, go_sem]) rfl ⟨⟨#[]⟩, by rfl, by first | (exact toList_extract _ _ _) | (rw [toList_extract]; simp; done) | (rw [ByteArray.toList_eq]), Below.refl _ _⟩
  · have d1 : decide ((s.size : Int) < 2) = true := decide_eq_true (by omega)
    rw [if_pos (by omega)] at hM
    obtain ⟨ht, hn9⟩ := Prod.mk.inj (Option.some.inj hM)
    subst ht
    subst hn9
    go_wp2
    exact bodyPost_ret (v := .tuple #[.string ⟨#[]⟩, .int .i64 0]) (by simp [results, Tryz.results38, go_sem]) rfl ⟨⟨#[]⟩, by rfl, by first | (exact toList_extract _ _ _) | (rw [toList_extract]; simp; done) | (rw [ByteArray.toList_eq]), Below.refl _ _⟩
/-- A piece of a literal between quotes q. -/
def pieceM (l : List UInt8) (q : Int) : Option (List UInt8 × Nat) :=
  if q = 96 ∧ byteAt l 0 = 13 then some ([], 1) else if q = 34 ∧ byteAt l 0 = 10 then some ([], 0) else if q = 34 ∧ byteAt l 0 = 92 then escM l else if (runeL l).1 = 65533 ∧ (runeL l).2 = 1 then some ([], 0) else some (l.take (runeL l).2, (runeL l).2)
set_option maxRecDepth 20000 in
set_option maxHeartbeats 4000000 in
theorem readPiece_any (s : ByteArray) (q : Int) (w : World) (hG : Glob w) (h0 : 0 < s.size) (t : List UInt8) (n : Nat) (hM : pieceM s.toList q = some (t, n)) (hs : s.size < 4611686018427387904) : Calls Tryz.prog 24 #[.string s, .int .u8 q] w fun e w' => ∃ b : ByteArray, e = .returned (.tuple #[.string b, .int .i64 n]) ∧ b.toList = t ∧ Below w.heap.size w w' := by
  have kd : Hid _ := Tryz.utf8_DecodeRuneInString s w hG.1.1
  obtain ⟨hm, hm1⟩ := runeL_le s h0
  rw [runeL_eq s h0] at kd
  have ke : Hid (escM s.toList = some (t, n) → Calls Tryz.prog 38 #[.string s] w fun e w' => ∃ b : ByteArray, e = .returned (.tuple #[.string b, .int .i64 n]) ∧ b.toList = t ∧ Below w.heap.size w w') := fun h => readEscape_any s w hG t n h hs
  unfold pieceM at hM
  rw [byteAt_lt s h0] at hM
  generalize (runeL s.toList).1 = R at *
  generalize (runeL s.toList).2 = m at *
  go_enter Tryz.func24, Tryz.ntmps24
  by_cases q1 : q = 96
  · subst q1
    by_cases c1 : ((s[0]'h0).toNat : Int) = 13
    · have e1 : (((s[0]'h0).toNat : Int) == 13) = true := by simp [c1]
      rw [if_pos ⟨rfl, c1⟩] at hM
      obtain ⟨ht, hn9⟩ := Prod.mk.inj (Option.some.inj hM)
      subst ht
      subst hn9
      clear kd ke
      go_wp2
      exact bodyPost_ret (v := .tuple #[.string ⟨#[]⟩, .int .i64 1]) (by simp [results, Tryz.results24, go_sem]) rfl ⟨⟨#[]⟩, rfl, by rw [ByteArray.toList_eq], Below.refl _ _⟩
    · have e1 : (((s[0]'h0).toNat : Int) == 13) = false := by simp [c1]
      rw [if_neg (fun h => c1 h.2), if_neg (by omega), if_neg (by omega)] at hM
      clear ke
      go_wp2_with fail
      refine Calls.mono kd.out ?_
      rintro e w2 ⟨rfl, hb⟩
      have hB := hb
      clear kd hb
      by_cases hr : R = 65533
      · have d8 : ((R : Int) == 65533) = true := by simp [hr]
        by_cases hn : m = 1
        · have d9 : ((m : Int) == 1) = true := by simp [hn]
          rw [if_pos ⟨hr, hn⟩] at hM
          obtain ⟨ht, hn9⟩ := Prod.mk.inj (Option.some.inj hM)
          subst ht
          subst hn9
          clear hr hn
          go_wp2
          exact bodyPost_ret (v := .tuple #[.string ⟨#[]⟩, .int .i64 0]) (by simp [results, Tryz.results24, go_sem]) rfl ⟨⟨#[]⟩, rfl, by rw [ByteArray.toList_eq], hB⟩
        · have d9 : ((m : Int) == 1) = false := by simp; omega
          rw [if_neg (fun h => hn h.2)] at hM
          obtain ⟨ht, hn9⟩ := Prod.mk.inj (Option.some.inj hM)
          subst ht
          subst hn9
          clear hr
          go_wp2
          exact bodyPost_ret (v := .tuple #[.string (s.extract 0 m), .int .i64 m]) (by simp [results, Tryz.results24, go_sem]) rfl ⟨s.extract 0 m, rfl, toList_take _ _, hB⟩
      · have d8 : ((R : Int) == 65533) = false := by simp; omega
        rw [if_neg (fun h => hr h.1)] at hM
        obtain ⟨ht, hn9⟩ := Prod.mk.inj (Option.some.inj hM)
        subst ht
        subst hn9
        go_wp2
        exact bodyPost_ret (v := .tuple #[.string (s.extract 0 m), .int .i64 m]) (by simp [results, Tryz.results24, go_sem]) rfl ⟨s.extract 0 m, rfl, toList_take _ _, hB⟩
  · have q1' : (q == 96) = false := by simp [q1]
    rw [if_neg (fun h => q1 h.1)] at hM
    by_cases q2 : q = 34
    · subst q2
      by_cases c2 : ((s[0]'h0).toNat : Int) = 10
      · have e2 : (((s[0]'h0).toNat : Int) == 10) = true := by simp [c2]
        rw [if_pos ⟨rfl, c2⟩] at hM
        obtain ⟨ht, hn9⟩ := Prod.mk.inj (Option.some.inj hM)
        subst ht
        subst hn9
        clear kd ke
        go_wp2
        exact bodyPost_ret (v := .tuple #[.string ⟨#[]⟩, .int .i64 0]) (by simp [results, Tryz.results24, go_sem]) rfl ⟨⟨#[]⟩, rfl, by rw [ByteArray.toList_eq], Below.refl _ _⟩
      · have e2 : (((s[0]'h0).toNat : Int) == 10) = false := by simp [c2]
        rw [if_neg (fun h => c2 h.2)] at hM
        by_cases c3 : ((s[0]'h0).toNat : Int) = 92
        · have e3 : (((s[0]'h0).toNat : Int) == 92) = true := by simp [c3]
          rw [if_pos ⟨rfl, c3⟩] at hM
          replace ke : Hid _ := ke.out hM
          clear kd hM
          go_wp2_with fail
          refine Calls.mono ke.out ?_
          rintro e w2 ⟨b, rfl, hb, hB⟩
          go_wp2
          exact bodyPost_ret (v := .tuple #[.string b, .int .i64 n]) (by simp [results, Tryz.results24, go_sem]) rfl ⟨b, rfl, hb, hB⟩
        · have e3 : (((s[0]'h0).toNat : Int) == 92) = false := by simp [c3]
          rw [if_neg (fun h => c3 h.2)] at hM
          clear ke
          go_wp2_with fail
          refine Calls.mono kd.out ?_
          rintro e w2 ⟨rfl, hb⟩
          have hB := hb
          clear kd hb
          by_cases hr : R = 65533
          · have d8 : ((R : Int) == 65533) = true := by simp [hr]
            by_cases hn : m = 1
            · have d9 : ((m : Int) == 1) = true := by simp [hn]
              rw [if_pos ⟨hr, hn⟩] at hM
              obtain ⟨ht, hn9⟩ := Prod.mk.inj (Option.some.inj hM)
              subst ht
              subst hn9
              clear hr hn
              go_wp2
              exact bodyPost_ret (v := .tuple #[.string ⟨#[]⟩, .int .i64 0]) (by simp [results, Tryz.results24, go_sem]) rfl ⟨⟨#[]⟩, rfl, by rw [ByteArray.toList_eq], hB⟩
            · have d9 : ((m : Int) == 1) = false := by simp; omega
              rw [if_neg (fun h => hn h.2)] at hM
              obtain ⟨ht, hn9⟩ := Prod.mk.inj (Option.some.inj hM)
              subst ht
              subst hn9
              clear hr
              go_wp2
              exact bodyPost_ret (v := .tuple #[.string (s.extract 0 m), .int .i64 m]) (by simp [results, Tryz.results24, go_sem]) rfl ⟨s.extract 0 m, rfl, toList_take _ _, hB⟩
          · have d8 : ((R : Int) == 65533) = false := by simp; omega
            rw [if_neg (fun h => hr h.1)] at hM
            obtain ⟨ht, hn9⟩ := Prod.mk.inj (Option.some.inj hM)
            subst ht
            subst hn9
            go_wp2
            exact bodyPost_ret (v := .tuple #[.string (s.extract 0 m), .int .i64 m]) (by simp [results, Tryz.results24, go_sem]) rfl ⟨s.extract 0 m, rfl, toList_take _ _, hB⟩
    · have q2' : (q == 34) = false := by simp [q2]
      rw [if_neg (fun h => q2 h.1), if_neg (fun h => q2 h.1)] at hM
      clear ke
      go_wp2_with fail
      refine Calls.mono kd.out ?_
      rintro e w2 ⟨rfl, hb⟩
      have hB := hb
      clear kd hb
      by_cases hr : R = 65533
      · have d8 : ((R : Int) == 65533) = true := by simp [hr]
        by_cases hn : m = 1
        · have d9 : ((m : Int) == 1) = true := by simp [hn]
          rw [if_pos ⟨hr, hn⟩] at hM
          obtain ⟨ht, hn9⟩ := Prod.mk.inj (Option.some.inj hM)
          subst ht
          subst hn9
          clear hr hn
          go_wp2
          exact bodyPost_ret (v := .tuple #[.string ⟨#[]⟩, .int .i64 0]) (by simp [results, Tryz.results24, go_sem]) rfl ⟨⟨#[]⟩, rfl, by rw [ByteArray.toList_eq], hB⟩
        · have d9 : ((m : Int) == 1) = false := by simp; omega
          rw [if_neg (fun h => hn h.2)] at hM
          obtain ⟨ht, hn9⟩ := Prod.mk.inj (Option.some.inj hM)
          subst ht
          subst hn9
          clear hr
          go_wp2
          exact bodyPost_ret (v := .tuple #[.string (s.extract 0 m), .int .i64 m]) (by simp [results, Tryz.results24, go_sem]) rfl ⟨s.extract 0 m, rfl, toList_take _ _, hB⟩
      · have d8 : ((R : Int) == 65533) = false := by simp; omega
        rw [if_neg (fun h => hr h.1)] at hM
        obtain ⟨ht, hn9⟩ := Prod.mk.inj (Option.some.inj hM)
        subst ht
        subst hn9
        go_wp2
        exact bodyPost_ret (v := .tuple #[.string (s.extract 0 m), .int .i64 m]) (by simp [results, Tryz.results24, go_sem]) rfl ⟨s.extract 0 m, rfl, toList_take _ _, hB⟩
theorem byteM_le (l : List UInt8) : (byteM l).2 ≤ l.length ∧ (byteM l).1.length ≤ l.length + 1 := by
  unfold byteM
  cases h : hexAt l 4 with
  | none => exact ⟨Nat.zero_le _, Nat.zero_le _⟩
  | some v =>
    unfold hexAt at h
    split at h
    · cases h
    · exact ⟨by show 4 ≤ _; omega, by show 1 ≤ _; omega⟩
theorem encode_le (v : Int) : (Utf8.encode v).toList.length ≤ 4 := by
  rw [toList_len]
  unfold Utf8.encode
  simp only
  repeat' split
  all_goals exact Nat.le_of_ble_eq_true rfl
theorem pointM_le (l : List UInt8) : (pointM l).2 ≤ l.length ∧ (pointM l).1.length ≤ l.length + 1 := by
  unfold pointM
  cases h : hexAt l 6 with
  | none => exact ⟨Nat.zero_le _, Nat.zero_le _⟩
  | some v =>
    unfold hexAt at h
    split at h
    · cases h
    · have := encode_le (v : Int)
      show (if Lib.validRune (v : Int) = true then ((Utf8.encode (v : Int)).toList, 6) else ([], 0)).2 ≤ _ ∧ (if Lib.validRune (v : Int) = true then ((Utf8.encode (v : Int)).toList, 6) else (([] : List UInt8), 0)).1.length ≤ _
      split
      · exact ⟨by show 6 ≤ _; omega, by show (Utf8.encode (v : Int)).toList.length ≤ _; omega⟩
      · exact ⟨Nat.zero_le _, Nat.zero_le _⟩
theorem pieceM_some (l : List UInt8) (q : Int) : ∃ t n, pieceM l q = some (t, n) := by
  unfold pieceM escM
  repeat (first | exact ⟨_, _, rfl⟩ | split)
end Go.Proofs.YtffggadmpdmbdaaGreatDoor
