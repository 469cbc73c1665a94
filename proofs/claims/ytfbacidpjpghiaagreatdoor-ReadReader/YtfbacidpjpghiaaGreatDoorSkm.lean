/- scan: pieces of strings, strings; all tokens. -/
import Derived.Test.YtfbacidpjpghiaaGreatDoorTcm
import Derived.Lib.RuneCount
import Derived.OwnWalk
import Derived.Deep.AppendLies
import Derived.Laws.OwnMore
import Derived.OneCell
namespace Go.Proofs.YtfbacidpjpghiaaGreatDoor
open Go.RowKit
attribute [local go_sem ↓] Go.wp_at_zero Go.wp_at_succ
/-- A rune at the beginning: it, its length. -/
def runeL (l : List UInt8) : Nat × Nat := Lib.decodeN l.length (l[0]?.getD 0).toNat (l[1]?.getD 0).toNat (l[2]?.getD 0).toNat (l[3]?.getD 0).toNat
theorem get_at (s : ByteArray) (i : Nat) : s.get! i = s.toList[i]?.getD 0 := by
  rw [ByteArray.toList_eq]
  show s.data[i]! = _
  rw [Array.getElem!_eq_getD, Array.getD_eq_getD_getElem?, Array.getElem?_toList]
  rfl
theorem runeL_eq (s : ByteArray) (h : 0 < s.size) : Lib.decodeGo s = runeL s.toList := by
  unfold Lib.decodeGo runeL
  rw [if_neg (by omega), Lib.decode_at, toList_len, get_at, get_at, get_at, get_at]
  rfl
theorem runeL_le (s : ByteArray) (h : 0 < s.size) : (runeL s.toList).2 ≤ s.size ∧ 1 ≤ (runeL s.toList).2 := by
  rw [← runeL_eq s h]
  unfold Lib.decodeGo
  rw [if_neg (by omega)]
  exact ⟨Lib.width_le s h, Lib.decode_width_pos s 0 h⟩
/-- An escape: what it says, its length. -/
def escM (l : List UInt8) : Option (List UInt8 × Nat) :=
  if l.length < 2 then some ([], 0) else if byteAt l 1 = 92 ∨ byteAt l 1 = 34 then some ((l.take 2).drop 1, 2) else if byteAt l 1 = 110 then some ([10], 2) else if byteAt l 1 = 116 then some ([9], 2) else if byteAt l 1 = 120 then some (byteM l) else if byteAt l 1 = 117 then some (pointM l) else some ([], 0)
set_option maxRecDepth 20000 in
set_option maxHeartbeats 4000000 in
theorem readEscape_any (s : ByteArray) (w : World) (hG : Glob w) (t : List UInt8) (n : Nat) (hM : escM s.toList = some (t, n)) (hs : s.size < 4611686018427387904) : Calls Tryz.prog 109 #[.string s] w fun e w' => ∃ b : ByteArray, e = .returned (.tuple #[.string b, .int .i64 n]) ∧ b.toList = t ∧ Below w.heap.size w w' := by
  unfold escM at hM
  rw [toList_len] at hM
  go_enter Tryz.func109, Tryz.ntmps109
  by_cases h1 : 1 < s.size
  · have d1 : decide ((s.size : Int) < 2) = false := decide_eq_false (by omega)
    rw [if_neg (by omega), byteAt_lt s h1] at hM
    by_cases c92 : ((s[1]'h1).toNat : Int) = 92
    · have e92 : (((s[1]'h1).toNat : Int) == 92) = true := by simp [c92]
      rw [if_pos (.inl c92)] at hM
      obtain ⟨ht, hn9⟩ := Prod.mk.inj (Option.some.inj hM)
      subst ht
      subst hn9
      go_wp2
      exact bodyPost_ret (v := .tuple #[.string (s.extract 1 2), .int .i64 2]) (by simp [results, Tryz.results109, go_sem]) rfl ⟨(s.extract 1 2), by rfl, by first | (exact toList_extract _ _ _) | (rw [toList_extract]; simp; done) | (rw [ByteArray.toList_eq]), Below.refl _ _⟩
    · have e92 : (((s[1]'h1).toNat : Int) == 92) = false := by simp [c92]
      by_cases c34 : ((s[1]'h1).toNat : Int) = 34
      · have e34 : (((s[1]'h1).toNat : Int) == 34) = true := by simp [c34]
        rw [if_pos (.inr c34)] at hM
        obtain ⟨ht, hn9⟩ := Prod.mk.inj (Option.some.inj hM)
        subst ht
        subst hn9
        go_wp2
        exact bodyPost_ret (v := .tuple #[.string (s.extract 1 2), .int .i64 2]) (by simp [results, Tryz.results109, go_sem]) rfl ⟨(s.extract 1 2), by rfl, by first | (exact toList_extract _ _ _) | (rw [toList_extract]; simp; done) | (rw [ByteArray.toList_eq]), Below.refl _ _⟩
      · have e34 : (((s[1]'h1).toNat : Int) == 34) = false := by simp [c34]
        by_cases c110 : ((s[1]'h1).toNat : Int) = 110
        · have e110 : (((s[1]'h1).toNat : Int) == 110) = true := by simp [c110]
          rw [if_neg (by omega), if_pos c110] at hM
          obtain ⟨ht, hn9⟩ := Prod.mk.inj (Option.some.inj hM)
          subst ht
          subst hn9
          go_wp2
          exact bodyPost_ret (v := .tuple #[.string ⟨#[10]⟩, .int .i64 2]) (by simp [results, Tryz.results109, go_sem]) rfl ⟨⟨#[10]⟩, by rfl, by first | (exact toList_extract _ _ _) | (rw [toList_extract]; simp; done) | (rw [ByteArray.toList_eq]), Below.refl _ _⟩
        · have e110 : (((s[1]'h1).toNat : Int) == 110) = false := by simp [c110]
          by_cases c116 : ((s[1]'h1).toNat : Int) = 116
          · have e116 : (((s[1]'h1).toNat : Int) == 116) = true := by simp [c116]
            rw [if_neg (by omega), if_neg (by omega), if_pos c116] at hM
            obtain ⟨ht, hn9⟩ := Prod.mk.inj (Option.some.inj hM)
            subst ht
            subst hn9
            go_wp2
            exact bodyPost_ret (v := .tuple #[.string ⟨#[9]⟩, .int .i64 2]) (by simp [results, Tryz.results109, go_sem]) rfl ⟨⟨#[9]⟩, by rfl, by first | (exact toList_extract _ _ _) | (rw [toList_extract]; simp; done) | (rw [ByteArray.toList_eq]), Below.refl _ _⟩
          · have e116 : (((s[1]'h1).toNat : Int) == 116) = false := by simp [c116]
            by_cases c120 : ((s[1]'h1).toNat : Int) = 120
            · have e120 : (((s[1]'h1).toNat : Int) == 120) = true := by simp [c120]
              rw [if_neg (by omega), if_neg (by omega), if_neg (by omega), if_pos c120] at hM
              have kb : Hid _ := readByte_any s w hG hs
              rw [Option.some.inj hM] at kb
              clear hM hG c120 c116 c110 c34 c92
              go_wp2_with fail
              refine Calls.mono kb.out ?_
              rintro e w2 ⟨b, rfl, hb, hB⟩
              clear kb
              go_wp2
              exact bodyPost_ret (v := .tuple #[.string b, .int .i64 n]) (by simp [results, Tryz.results109, go_sem]) rfl ⟨b, rfl, hb, hB⟩
            · have e120 : (((s[1]'h1).toNat : Int) == 120) = false := by simp [c120]
              by_cases c117 : ((s[1]'h1).toNat : Int) = 117
              · have e117 : (((s[1]'h1).toNat : Int) == 117) = true := by simp [c117]
                rw [if_neg (by omega), if_neg (by omega), if_neg (by omega), if_neg (by omega), if_pos c117] at hM
                have kb : Hid _ := readPoint_any s w hG hs
                rw [Option.some.inj hM] at kb
                clear hM hG c117 c120 c116 c110 c34 c92
                go_wp2_with fail
                refine Calls.mono kb.out ?_
                rintro e w2 ⟨b, rfl, hb, hB⟩
                clear kb
                go_wp2
                exact bodyPost_ret (v := .tuple #[.string b, .int .i64 n]) (by simp [results, Tryz.results109, go_sem]) rfl ⟨b, rfl, hb, hB⟩
              · have e117 : (((s[1]'h1).toNat : Int) == 117) = false := by simp [c117]
                rw [if_neg (by omega), if_neg (by omega), if_neg (by omega), if_neg (by omega), if_neg (by omega)] at hM
                obtain ⟨ht, hn9⟩ := Prod.mk.inj (Option.some.inj hM)
                subst ht
                subst hn9
                go_wp2
                exact bodyPost_ret (v := .tuple #[.string ⟨#[]⟩, .int .i64 0]) (by simp [results, Tryz.results109, go_sem]) rfl ⟨⟨#[]⟩, by rfl, by first | (exact toList_extract _ _ _) | (rw [toList_extract]; simp; done) | (rw [ByteArray.toList_eq]), Below.refl _ _⟩
  · have d1 : decide ((s.size : Int) < 2) = true := decide_eq_true (by omega)
    rw [if_pos (by omega)] at hM
    obtain ⟨ht, hn9⟩ := Prod.mk.inj (Option.some.inj hM)
    subst ht
    subst hn9
    go_wp2
    exact bodyPost_ret (v := .tuple #[.string ⟨#[]⟩, .int .i64 0]) (by simp [results, Tryz.results109, go_sem]) rfl ⟨⟨#[]⟩, by rfl, by first | (exact toList_extract _ _ _) | (rw [toList_extract]; simp; done) | (rw [ByteArray.toList_eq]), Below.refl _ _⟩
/-- A piece of a literal between quotes q. -/
def pieceM (l : List UInt8) (q : Int) : Option (List UInt8 × Nat) :=
  if q = 96 ∧ byteAt l 0 = 13 then some ([], 1) else if q = 34 ∧ byteAt l 0 = 10 then some ([], 0) else if q = 34 ∧ byteAt l 0 = 92 then escM l else if (runeL l).1 = 65533 ∧ (runeL l).2 = 1 then some ([], 0) else some (l.take (runeL l).2, (runeL l).2)
set_option maxRecDepth 20000 in
set_option maxHeartbeats 4000000 in
theorem readPiece_any (s : ByteArray) (q : Int) (w : World) (hG : Glob w) (h0 : 0 < s.size) (t : List UInt8) (n : Nat) (hM : pieceM s.toList q = some (t, n)) (hs : s.size < 4611686018427387904) : Calls Tryz.prog 96 #[.string s, .int .u8 q] w fun e w' => ∃ b : ByteArray, e = .returned (.tuple #[.string b, .int .i64 n]) ∧ b.toList = t ∧ Below w.heap.size w w' := by
  have kd : Hid _ := Tryz.utf8_DecodeRuneInString s w hG.1.1
  obtain ⟨hm, hm1⟩ := runeL_le s h0
  rw [runeL_eq s h0] at kd
  have ke : Hid (escM s.toList = some (t, n) → Calls Tryz.prog 109 #[.string s] w fun e w' => ∃ b : ByteArray, e = .returned (.tuple #[.string b, .int .i64 n]) ∧ b.toList = t ∧ Below w.heap.size w w') := fun h => readEscape_any s w hG t n h hs
  unfold pieceM at hM
  rw [byteAt_lt s h0] at hM
  generalize (runeL s.toList).1 = R at *
  generalize (runeL s.toList).2 = m at *
  go_enter Tryz.func96, Tryz.ntmps96
  by_cases q1 : q = 96
  · subst q1
    by_cases c1 : ((s[0]'h0).toNat : Int) = 13
    · have e1 : (((s[0]'h0).toNat : Int) == 13) = true := by simp [c1]
      rw [if_pos ⟨rfl, c1⟩] at hM
      obtain ⟨ht, hn9⟩ := Prod.mk.inj (Option.some.inj hM)
      subst ht
      subst hn9
      clear kd ke
      go_wp2
      exact bodyPost_ret (v := .tuple #[.string ⟨#[]⟩, .int .i64 1]) (by simp [results, Tryz.results96, go_sem]) rfl ⟨⟨#[]⟩, rfl, by rw [ByteArray.toList_eq], Below.refl _ _⟩
    · have e1 : (((s[0]'h0).toNat : Int) == 13) = false := by simp [c1]
      rw [if_neg (fun h => c1 h.2), if_neg (by omega), if_neg (by omega)] at hM
      clear ke
      go_wp2_with fail
      refine Calls.mono kd.out ?_
      rintro e w2 ⟨rfl, hb⟩
      have hB := hb
      clear kd hb
      by_cases hr : R = 65533
      · have d8 : ((R : Int) == 65533) = true := by simp [hr]
        by_cases hn : m = 1
        · have d9 : ((m : Int) == 1) = true := by simp [hn]
          rw [if_pos ⟨hr, hn⟩] at hM
          obtain ⟨ht, hn9⟩ := Prod.mk.inj (Option.some.inj hM)
          subst ht
          subst hn9
          clear hr hn
          go_wp2
          exact bodyPost_ret (v := .tuple #[.string ⟨#[]⟩, .int .i64 0]) (by simp [results, Tryz.results96, go_sem]) rfl ⟨⟨#[]⟩, rfl, by rw [ByteArray.toList_eq], hB⟩
        · have d9 : ((m : Int) == 1) = false := by simp; omega
          rw [if_neg (fun h => hn h.2)] at hM
          obtain ⟨ht, hn9⟩ := Prod.mk.inj (Option.some.inj hM)
          subst ht
          subst hn9
          clear hr
          go_wp2
          exact bodyPost_ret (v := .tuple #[.string (s.extract 0 m), .int .i64 m]) (by simp [results, Tryz.results96, go_sem]) rfl ⟨s.extract 0 m, rfl, toList_take _ _, hB⟩
      · have d8 : ((R : Int) == 65533) = false := by simp; omega
        rw [if_neg (fun h => hr h.1)] at hM
        obtain ⟨ht, hn9⟩ := Prod.mk.inj (Option.some.inj hM)
        subst ht
        subst hn9
        go_wp2
        exact bodyPost_ret (v := .tuple #[.string (s.extract 0 m), .int .i64 m]) (by simp [results, Tryz.results96, go_sem]) rfl ⟨s.extract 0 m, rfl, toList_take _ _, hB⟩
  · have q1' : (q == 96) = false := by simp [q1]
    rw [if_neg (fun h => q1 h.1)] at hM
    by_cases q2 : q = 34
    · subst q2
      by_cases c2 : ((s[0]'h0).toNat : Int) = 10
      · have e2 : (((s[0]'h0).toNat : Int) == 10) = true := by simp [c2]
        rw [if_pos ⟨rfl, c2⟩] at hM
        obtain ⟨ht, hn9⟩ := Prod.mk.inj (Option.some.inj hM)
        subst ht
        subst hn9
        clear kd ke
        go_wp2
        exact bodyPost_ret (v := .tuple #[.string ⟨#[]⟩, .int .i64 0]) (by simp [results, Tryz.results96, go_sem]) rfl ⟨⟨#[]⟩, rfl, by rw [ByteArray.toList_eq], Below.refl _ _⟩
      · have e2 : (((s[0]'h0).toNat : Int) == 10) = false := by simp [c2]
        rw [if_neg (fun h => c2 h.2)] at hM
        by_cases c3 : ((s[0]'h0).toNat : Int) = 92
        · have e3 : (((s[0]'h0).toNat : Int) == 92) = true := by simp [c3]
          rw [if_pos ⟨rfl, c3⟩] at hM
          replace ke : Hid _ := ke.out hM
          clear kd hM
          go_wp2_with fail
          refine Calls.mono ke.out ?_
          rintro e w2 ⟨b, rfl, hb, hB⟩
          go_wp2
          exact bodyPost_ret (v := .tuple #[.string b, .int .i64 n]) (by simp [results, Tryz.results96, go_sem]) rfl ⟨b, rfl, hb, hB⟩
        · have e3 : (((s[0]'h0).toNat : Int) == 92) = false := by simp [c3]
          rw [if_neg (fun h => c3 h.2)] at hM
          clear ke
          go_wp2_with fail
          refine Calls.mono kd.out ?_
          rintro e w2 ⟨rfl, hb⟩
          have hB := hb
          clear kd hb
          by_cases hr : R = 65533
          · have d8 : ((R : Int) == 65533) = true := by simp [hr]
            by_cases hn : m = 1
            · have d9 : ((m : Int) == 1) = true := by simp [hn]
              rw [if_pos ⟨hr, hn⟩] at hM
              obtain ⟨ht, hn9⟩ := Prod.mk.inj (Option.some.inj hM)
              subst ht
              subst hn9
              clear hr hn
              go_wp2
              exact bodyPost_ret (v := .tuple #[.string ⟨#[]⟩, .int .i64 0]) (by simp [results, Tryz.results96, go_sem]) rfl ⟨⟨#[]⟩, rfl, by rw [ByteArray.toList_eq], hB⟩
            · have d9 : ((m : Int) == 1) = false := by simp; omega
              rw [if_neg (fun h => hn h.2)] at hM
              obtain ⟨ht, hn9⟩ := Prod.mk.inj (Option.some.inj hM)
              subst ht
              subst hn9
              clear hr
              go_wp2
              exact bodyPost_ret (v := .tuple #[.string (s.extract 0 m), .int .i64 m]) (by simp [results, Tryz.results96, go_sem]) rfl ⟨s.extract 0 m, rfl, toList_take _ _, hB⟩
          · have d8 : ((R : Int) == 65533) = false := by simp; omega
            rw [if_neg (fun h => hr h.1)] at hM
            obtain ⟨ht, hn9⟩ := Prod.mk.inj (Option.some.inj hM)
            subst ht
            subst hn9
            go_wp2
            exact bodyPost_ret (v := .tuple #[.string (s.extract 0 m), .int .i64 m]) (by simp [results, Tryz.results96, go_sem]) rfl ⟨s.extract 0 m, rfl, toList_take _ _, hB⟩
    · have q2' : (q == 34) = false := by simp [q2]
      rw [if_neg (fun h => q2 h.1), if_neg (fun h => q2 h.1)] at hM
      clear ke
      go_wp2_with fail
      refine Calls.mono kd.out ?_
      rintro e w2 ⟨rfl, hb⟩
      have hB := hb
      clear kd hb
      by_cases hr : R = 65533
      · have d8 : ((R : Int) == 65533) = true := by simp [hr]
        by_cases hn : m = 1
        · have d9 : ((m : Int) == 1) = true := by simp [hn]
          rw [if_pos ⟨hr, hn⟩] at hM
          obtain ⟨ht, hn9⟩ := Prod.mk.inj (Option.some.inj hM)
          subst ht
          subst hn9
          clear hr hn
          go_wp2
          exact bodyPost_ret (v := .tuple #[.string ⟨#[]⟩, .int .i64 0]) (by simp [results, Tryz.results96, go_sem]) rfl ⟨⟨#[]⟩, rfl, by rw [ByteArray.toList_eq], hB⟩
        · have d9 : ((m : Int) == 1) = false := by simp; omega
          rw [if_neg (fun h => hn h.2)] at hM
          obtain ⟨ht, hn9⟩ := Prod.mk.inj (Option.some.inj hM)
          subst ht
          subst hn9
          clear hr
          go_wp2
          exact bodyPost_ret (v := .tuple #[.string (s.extract 0 m), .int .i64 m]) (by simp [results, Tryz.results96, go_sem]) rfl ⟨s.extract 0 m, rfl, toList_take _ _, hB⟩
      · have d8 : ((R : Int) == 65533) = false := by simp; omega
        rw [if_neg (fun h => hr h.1)] at hM
        obtain ⟨ht, hn9⟩ := Prod.mk.inj (Option.some.inj hM)
        subst ht
        subst hn9
        go_wp2
        exact bodyPost_ret (v := .tuple #[.string (s.extract 0 m), .int .i64 m]) (by simp [results, Tryz.results96, go_sem]) rfl ⟨s.extract 0 m, rfl, toList_take _ _, hB⟩
theorem byteM_le (l : List UInt8) : (byteM l).2 ≤ l.length ∧ (byteM l).1.length ≤ l.length + 1 := by
  unfold byteM
  cases h : hexAt l 4 with
  | none => exact ⟨Nat.zero_le _, Nat.zero_le _⟩
  | some v =>
    unfold hexAt at h
    split at h
    · cases h
    · exact ⟨by show 4 ≤ _; omega, by show 1 ≤ _; omega⟩
theorem encode_le (v : Int) : (Utf8.encode v).toList.length ≤ 4 := by
  rw [toList_len]
  unfold Utf8.encode
  simp only
  repeat' split
  all_goals exact Nat.le_of_ble_eq_true rfl
theorem pointM_le (l : List UInt8) : (pointM l).2 ≤ l.length ∧ (pointM l).1.length ≤ l.length + 1 := by
  unfold pointM
  cases h : hexAt l 6 with
  | none => exact ⟨Nat.zero_le _, Nat.zero_le _⟩
  | some v =>
    unfold hexAt at h
    split at h
    · cases h
    · have := encode_le (v : Int)
      show (if Lib.validRune (v : Int) = true then ((Utf8.encode (v : Int)).toList, 6) else ([], 0)).2 ≤ _ ∧ (if Lib.validRune (v : Int) = true then ((Utf8.encode (v : Int)).toList, 6) else (([] : List UInt8), 0)).1.length ≤ _
      split
      · exact ⟨by show 6 ≤ _; omega, by show (Utf8.encode (v : Int)).toList.length ≤ _; omega⟩
      · exact ⟨Nat.zero_le _, Nat.zero_le _⟩
theorem pieceM_some (l : List UInt8) (q : Int) : ∃ t n, pieceM l q = some (t, n) := by
  unfold pieceM escM
  repeat (first | exact ⟨_, _, rfl⟩ | split)
end Go.Proofs.YtfbacidpjpghiaaGreatDoor
namespace Go.Proofs.YtfbacidpjpghiaaGreatDoor
open Go.RowKit
attribute [local go_sem ↓] Go.wp_at_zero Go.wp_at_succ
theorem escM_le {l : List UInt8} {t : List UInt8} {n : Nat} (h : escM l = some (t, n)) : n ≤ l.length := by
  unfold escM at h
  split at h
  · cases h; exact Nat.zero_le _
  · split at h
    · cases h; omega
    · split at h
      · cases h; omega
      · split at h
        · cases h; omega
        · split at h
          · have h2 := (byteM_le l).1
            rw [Option.some.inj h] at h2
            exact h2
          · split at h
            · have h2 := (pointM_le l).1
              rw [Option.some.inj h] at h2
              exact h2
            · cases h; exact Nat.zero_le _
theorem pieceM_le (s : ByteArray) (h0 : 0 < s.size) {q : Int} {t : List UInt8} {n : Nat} (h : pieceM s.toList q = some (t, n)) : n ≤ s.size := by
  have hr := (runeL_le s h0).1
  unfold pieceM at h
  split at h
  · cases h; omega
  · split at h
    · cases h; omega
    · split at h
      · have := escM_le h
        rw [toList_len] at this
        exact this
      · split at h
        · cases h; omega
        · cases h; exact hr
/-- Where a literal whose inside is read up to a place ends; 0: it is wrong. -/
def strGo (l : List UInt8) (q : Int) : Nat → Nat → Option Nat
  | 0, _ => none
  | f + 1, a => if a < l.length ∧ byteAt l a ≠ q then (match pieceM (l.drop a) q with
      | none => none
      | some (_, 0) => some 0
      | some (_, n + 1) => strGo l q f (a + (n + 1))) else if a = l.length then some 0 else some (a + 1)
theorem strGo_le (s : ByteArray) (q : Int) (f a r : Nat) (ha : a ≤ s.size) (h : strGo s.toList q f a = some r) : r ≤ s.size := by
  induction f generalizing a with
  | zero => cases h
  | succ f ih =>
    unfold strGo at h
    rw [toList_len] at h
    split at h
    · rename_i hc
      split at h
      · cases h
      · cases h; exact Nat.zero_le _
      · rename_i t n hp
        refine ih _ ?_ h
        have := pieceM_le (s.extract a s.size) (by rw [ByteArray.size_extract]; omega) (q := q) (t := t) (n := n + 1) (by rw [toList_drop]; exact hp)
        rw [ByteArray.size_extract] at this
        omega
    · split at h
      · cases h; exact Nat.zero_le _
      · cases h; omega
def strM (l : List UInt8) : Option Nat := if byteAt l 0 ≠ 34 ∧ byteAt l 0 ≠ 96 then some 0 else strGo l (byteAt l 0) (l.length + 1) 1
theorem strM_le (s : ByteArray) (h0 : 0 < s.size) {r : Nat} (h : strM s.toList = some r) : r ≤ s.size := by
  unfold strM at h
  split at h
  · cases h; exact Nat.zero_le _
  · exact strGo_le s _ _ _ _ (by omega) h
set_option maxRecDepth 20000 in
set_option maxHeartbeats 4000000 in
theorem stringLength_any (s : ByteArray) (w : World) (hG : Glob w) (h0 : 0 < s.size) (r : Nat) (hM : strM s.toList = some r) (hs : s.size < 4611686018427387904) : Calls Tryz.prog 76 #[.string s] w fun e w' => e = .returned (.int .i64 r) ∧ Below w.heap.size w w' := by
  unfold strM at hM
  have hz := byteAt_lt s h0
  rw [hz, toList_len] at hM
  obtain ⟨q, hq0⟩ : ∃ q : Int, q = ((s[0]'h0).toNat : Int) := ⟨_, rfl⟩
  rw [← hq0] at hM
  clear hz
  go_enter Tryz.func76, Tryz.ntmps76
  by_cases c1 : ((s[0]'h0).toNat : Int) = 34
  · have e1 : (((s[0]'h0).toNat : Int) != 34) = false := by simp [c1]
    obtain rfl : q = 34 := by omega
    rw [if_neg (by omega)] at hM
    replace hM : Hid _ := hM
    clear hq0
    go_wp2
    go_loopw [4, 5, 6] (fun a p m wr => ∃ (k f : Nat), a = .int .i64 k ∧ k ≤ s.size ∧ Hid (strGo s.toList 34 f k = some r) ∧ Below w.heap.size w wr) (fun a _ _ _ => (s.size - intOf a).toNat)
    case atStart => exact ⟨1, s.size + 1, rfl, by omega, hM.out, Below.refl _ _⟩
    case round =>
      obtain ⟨k, f, rfl, hk, hI, hb⟩ := hrel
      cases f with
      | zero => exact absurd hI.out (by unfold strGo; simp)
      | succ f =>
        have hI' := hI.out
        unfold strGo at hI'
        rw [toList_len] at hI'
        by_cases hlt : k < s.size
        · have d1 : decide ((k : Int) < s.size) = true := decide_eq_true (by omega)
          have hbt := byteAt_lt s hlt
          rw [hbt] at hI'
          by_cases hq : ((s[k]'hlt).toNat : Int) = 34
          · have d2 : (((s[k]'hlt).toNat : Int) != 34) = false := by simp [hq]
            have d3 : ((k : Int) == s.size) = false := by simp; omega
            rw [if_neg (fun h => h.2 hq), if_neg (by omega)] at hI'
            obtain rfl := Option.some.inj hI'
            clear hbt hI hq
            go_wp2
            go_ret
            exact ⟨rfl, hb⟩
          · have d2 : (((s[k]'hlt).toNat : Int) != 34) = true := by simp [hq]
            rw [if_pos ⟨hlt, hq⟩] at hI'
            have hsz : (s.extract k s.size).size = s.size - k := by rw [ByteArray.size_extract]; omega
            have kp : Hid (∀ t n, pieceM (s.toList.drop k) 34 = some (t, n) → Calls Tryz.prog 96 #[.string (s.extract k s.size), .int .u8 34] wr fun e w' => ∃ b : ByteArray, e = .returned (.tuple #[.string b, .int .i64 n]) ∧ b.toList = t ∧ Below wr.heap.size wr w') := fun t n h => readPiece_any (s.extract k s.size) 34 wr (hG.next hb) (by omega) t n (by rw [toList_drop]; exact h) (by omega)
            have kl : Hid (∀ t n, pieceM (s.toList.drop k) 34 = some (t, n) → k + n ≤ s.size) := fun t n h => by
              have := pieceM_le (s.extract k s.size) (by omega) (q := 34) (t := t) (n := n) (by rw [toList_drop]; exact h)
              omega
            clear hbt hI hsz
            cases hp : pieceM (s.toList.drop k) 34 with
            | none => rw [hp] at hI'; cases hI'
            | some tn =>
              obtain ⟨t, n⟩ := tn
              rw [hp] at hI'
              replace kp : Hid _ := kp.out t n hp
              replace kl := kl.out t n hp
              clear hp
              go_wp2_with fail
              refine Calls.mono kp.out ?_
              rintro e w2 ⟨b, rfl, hbt, hb2⟩
              clear kp
              have hB := bthen hb hb2
              cases n with
              | zero =>
                obtain rfl := Option.some.inj hI'
                go_wp2
                go_ret
                exact ⟨rfl, hB⟩
              | succ n =>
                have d4 : (((n + 1 : Nat) : Int) == 0) = false := by simp; omega
                replace hI' : Hid (strGo s.toList 34 f (k + (n + 1)) = some r) := hI'
                go_wp2
                go_roundw
                case rel => exact ⟨k + (n + 1), f, by go_num, by omega, hI'.out, hB⟩
                case measure => simp [intOf]; omega
        · have hke : k = s.size := by omega
          have d1 : decide ((k : Int) < s.size) = false := decide_eq_false (by omega)
          have d3 : ((k : Int) == s.size) = true := by simp [hke]
          rw [if_neg (fun h => hlt h.1), if_pos hke] at hI'
          obtain rfl := Option.some.inj hI'
          clear hI hke
          go_wp2
          go_ret
          exact ⟨rfl, hb⟩
  · have e1 : (((s[0]'h0).toNat : Int) != 34) = true := by simp [c1]
    by_cases c2 : ((s[0]'h0).toNat : Int) = 96
    · have e2 : (((s[0]'h0).toNat : Int) != 96) = false := by simp [c2]
      obtain rfl : q = 96 := by omega
      rw [if_neg (by omega)] at hM
      replace hM : Hid _ := hM
      clear hq0
      go_wp2
      go_loopw [4, 5, 6] (fun a p m wr => ∃ (k f : Nat), a = .int .i64 k ∧ k ≤ s.size ∧ Hid (strGo s.toList 96 f k = some r) ∧ Below w.heap.size w wr) (fun a _ _ _ => (s.size - intOf a).toNat)
      case atStart => exact ⟨1, s.size + 1, rfl, by omega, hM.out, Below.refl _ _⟩
      case round =>
        obtain ⟨k, f, rfl, hk, hI, hb⟩ := hrel
        cases f with
        | zero => exact absurd hI.out (by unfold strGo; simp)
        | succ f =>
          have hI' := hI.out
          unfold strGo at hI'
          rw [toList_len] at hI'
          by_cases hlt : k < s.size
          · have d1 : decide ((k : Int) < s.size) = true := decide_eq_true (by omega)
            have hbt := byteAt_lt s hlt
            rw [hbt] at hI'
            by_cases hq : ((s[k]'hlt).toNat : Int) = 96
            · have d2 : (((s[k]'hlt).toNat : Int) != 96) = false := by simp [hq]
              have d3 : ((k : Int) == s.size) = false := by simp; omega
              rw [if_neg (fun h => h.2 hq), if_neg (by omega)] at hI'
              obtain rfl := Option.some.inj hI'
              clear hbt hI hq
              go_wp2
              go_ret
              exact ⟨rfl, hb⟩
            · have d2 : (((s[k]'hlt).toNat : Int) != 96) = true := by simp [hq]
              rw [if_pos ⟨hlt, hq⟩] at hI'
              have hsz : (s.extract k s.size).size = s.size - k := by rw [ByteArray.size_extract]; omega
              have kp : Hid (∀ t n, pieceM (s.toList.drop k) 96 = some (t, n) → Calls Tryz.prog 96 #[.string (s.extract k s.size), .int .u8 96] wr fun e w' => ∃ b : ByteArray, e = .returned (.tuple #[.string b, .int .i64 n]) ∧ b.toList = t ∧ Below wr.heap.size wr w') := fun t n h => readPiece_any (s.extract k s.size) 96 wr (hG.next hb) (by omega) t n (by rw [toList_drop]; exact h) (by omega)
              have kl : Hid (∀ t n, pieceM (s.toList.drop k) 96 = some (t, n) → k + n ≤ s.size) := fun t n h => by
                have := pieceM_le (s.extract k s.size) (by omega) (q := 96) (t := t) (n := n) (by rw [toList_drop]; exact h)
                omega
              clear hbt hI hsz
              cases hp : pieceM (s.toList.drop k) 96 with
              | none => rw [hp] at hI'; cases hI'
              | some tn =>
                obtain ⟨t, n⟩ := tn
                rw [hp] at hI'
                replace kp : Hid _ := kp.out t n hp
                replace kl := kl.out t n hp
                clear hp
                go_wp2_with fail
                refine Calls.mono kp.out ?_
                rintro e w2 ⟨b, rfl, hbt, hb2⟩
                clear kp
                have hB := bthen hb hb2
                cases n with
                | zero =>
                  obtain rfl := Option.some.inj hI'
                  go_wp2
                  go_ret
                  exact ⟨rfl, hB⟩
                | succ n =>
                  have d4 : (((n + 1 : Nat) : Int) == 0) = false := by simp; omega
                  replace hI' : Hid (strGo s.toList 96 f (k + (n + 1)) = some r) := hI'
                  go_wp2
                  go_roundw
                  case rel => exact ⟨k + (n + 1), f, by go_num, by omega, hI'.out, hB⟩
                  case measure => simp [intOf]; omega
          · have hke : k = s.size := by omega
            have d1 : decide ((k : Int) < s.size) = false := decide_eq_false (by omega)
            have d3 : ((k : Int) == s.size) = true := by simp [hke]
            rw [if_neg (fun h => hlt h.1), if_pos hke] at hI'
            obtain rfl := Option.some.inj hI'
            clear hI hke
            go_wp2
            go_ret
            exact ⟨rfl, hb⟩
    · have e2 : (((s[0]'h0).toNat : Int) != 96) = true := by simp [c2]
      rw [if_pos (by omega)] at hM
      obtain rfl := Option.some.inj hM
      clear hq0 hM
      go_wp2
      go_ret
      exact ⟨rfl, Below.refl _ _⟩
end Go.Proofs.YtfbacidpjpghiaaGreatDoor
namespace Go.Proofs.YtfbacidpjpghiaaGreatDoor
open Go.RowKit
attribute [local go_sem ↓] Go.wp_at_zero Go.wp_at_succ
def measureM (l : List UInt8) : Option (Int × Nat) :=
  if isLetterB (byteAt l 0) = true then some (nameM l) else if isDigitB (byteAt l 0) = true ∨ (byteAt l 0 = 46 ∧ 1 < l.length ∧ isDigitB (byteAt l 1) = true) then some (numberM l) else if byteAt l 0 = 34 ∨ byteAt l 0 = 96 then (strM l).map (fun n => (4, n)) else if byteAt l 0 = 59 then some (7, 1) else some (5, opL l)
theorem numberM_le (s : ByteArray) : (numberM s.toList).2 ≤ s.size := by
  unfold numberM
  split
  · exact Nat.zero_le _
  · exact basedM_le s
theorem measureM_le (s : ByteArray) (h0 : 0 < s.size) {k : Int} {n : Nat} (h : measureM s.toList = some (k, n)) : n ≤ s.size := by
  unfold measureM at h
  split at h
  · obtain ⟨_, rfl⟩ := Prod.mk.inj (Option.some.inj h); exact spanL_len _ s
  · split at h
    · have e := Option.some.inj h
      have := numberM_le s
      rw [e] at this
      exact this
    · split at h
      · cases hs : strM s.toList with
        | none => rw [hs] at h; cases h
        | some r =>
          rw [hs] at h
          have := strM_le s h0 hs
          obtain ⟨_, rfl⟩ := Prod.mk.inj (Option.some.inj h)
          exact this
      · split at h
        · obtain ⟨_, rfl⟩ := Prod.mk.inj (Option.some.inj h); exact h0
        · obtain ⟨_, rfl⟩ := Prod.mk.inj (Option.some.inj h)
          have := opGo_le s.toList (min 3 s.toList.length)
          rw [toList_len] at this
          unfold opL
          rw [toList_len]
          omega
theorem split_some {k k' : Int} {n n' : Nat} (h : some (k, n) = some (k', n')) : k = k' ∧ n = n' := Prod.mk.inj (Option.some.inj h)
theorem split_pair {p : Int × Nat} {k : Int} {n : Nat} (h : some p = some (k, n)) : k = p.1 ∧ n = p.2 := by
  have := Option.some.inj h
  subst this
  exact ⟨rfl, rfl⟩
set_option maxRecDepth 20000 in
set_option maxHeartbeats 4000000 in
theorem measure_any (s : ByteArray) (w : World) (hG : Glob w) (h0 : 0 < s.size) (k : Int) (n : Nat) (hM : measureM s.toList = some (k, n)) (hs : s.size < 4611686018427387904) : Calls Tryz.prog 57 #[.string s] w fun e w' => e = .returned (.tuple #[.int .i64 k, .int .i64 n]) ∧ Below w.heap.size w w' := by
  unfold measureM at hM
  rw [byteAt_lt s h0, toList_len] at hM
  have kl : Hid _ := fun w => isLetter_any ((s[0]'h0).toNat : Int) w
  have kg : Hid _ := fun w => isDigit_any ((s[0]'h0).toNat : Int) w
  have kn : Hid _ := fun w => measureNumber_any s w h0 hs
  generalize hC : ((s[0]'h0).toNat : Int) = C at *
  go_enter Tryz.func57, Tryz.ntmps57
  go_wp2_with fail
  refine Calls.mono (kl.out _) ?_
  rintro e w1 ⟨rfl, rfl⟩
  cases hl : isLetterB C with
  | true =>
    rw [if_pos hl] at hM
    have km : Hid _ := fun w => measureName_any s w (by omega)
    obtain ⟨rfl, rfl⟩ := split_pair hM
    clear hM hl
    go_wp2_with fail
    refine Calls.mono (km.out _) ?_
    rintro e w2 ⟨rfl, rfl⟩
    go_wp2
    exact bodyPost_ret (v := .tuple #[.int .i64 (nameM s.toList).1, .int .i64 (nameM s.toList).2]) (by simp [results, Tryz.results57, go_sem]) rfl ⟨rfl, Below.refl _ _⟩
  | false =>
    rw [if_neg (by rw [hl]; decide)] at hM
    clear hl
    go_wp2_with fail
    refine Calls.mono (kg.out _) ?_
    rintro e w2 ⟨rfl, rfl⟩
    cases hd : isDigitB C with
    | true =>
      rw [if_pos (.inl hd)] at hM
      obtain ⟨rfl, rfl⟩ := split_pair hM
      clear hM hd
      go_wp2_with fail
      refine Calls.mono (kn.out _) ?_
      rintro e w3 ⟨rfl, rfl⟩
      go_wp2
      exact bodyPost_ret (v := .tuple #[.int .i64 (numberM s.toList).1, .int .i64 (numberM s.toList).2]) (by simp [results, Tryz.results57, go_sem]) rfl ⟨rfl, Below.refl _ _⟩
    | false =>
      by_cases c46 : C = 46
      · have e46 : (C == 46) = true := by simp [c46]
        by_cases h1 : 1 < s.size
        · have d1 : decide ((s.size : Int) > 1) = true := decide_eq_true (by omega)
          have k1 : Hid _ := fun w => isDigit_any ((s[1]'h1).toNat : Int) w
          rw [byteAt_lt s h1] at hM
          go_wp2_with fail
          refine Calls.mono (k1.out _) ?_
          rintro e w3 ⟨rfl, rfl⟩
          cases hd1 : isDigitB ((s[1]'h1).toNat : Int) with
          | true =>
            rw [if_pos (.inr ⟨c46, h1, hd1⟩)] at hM
            obtain ⟨rfl, rfl⟩ := split_pair hM
            clear hM hd hd1
            go_wp2_with fail
            refine Calls.mono (kn.out _) ?_
            rintro e w4 ⟨rfl, rfl⟩
            go_wp2
            exact bodyPost_ret (v := .tuple #[.int .i64 (numberM s.toList).1, .int .i64 (numberM s.toList).2]) (by simp [results, Tryz.results57, go_sem]) rfl ⟨rfl, Below.refl _ _⟩
          | false =>
            rw [if_neg (by rw [hd, hd1]; simp), if_neg (by omega), if_neg (by omega)] at hM
            obtain ⟨rfl, rfl⟩ := split_some hM
            have ko : Hid _ := fun w => operatorLength_any s w hs
            clear hM
            go_wp2_with fail
            refine Calls.mono (ko.out _) ?_
            rintro e w3 ⟨rfl, rfl⟩
            go_wp2
            exact bodyPost_ret (v := .tuple #[.int .i64 5, .int .i64 (opL s.toList)]) (by simp [results, Tryz.results57, go_sem]) rfl ⟨rfl, Below.refl _ _⟩
        · have d1 : decide ((s.size : Int) > 1) = false := decide_eq_false (by omega)
          rw [if_neg (fun h => h.elim (fun h => by rw [hd] at h; cases h) (fun h => h1 h.2.1)), if_neg (by omega), if_neg (by omega)] at hM
          obtain ⟨rfl, rfl⟩ := split_some hM
          have ko : Hid _ := fun w => operatorLength_any s w hs
          clear hM
          go_wp2_with fail
          refine Calls.mono (ko.out _) ?_
          rintro e w3 ⟨rfl, rfl⟩
          go_wp2
          exact bodyPost_ret (v := .tuple #[.int .i64 5, .int .i64 (opL s.toList)]) (by simp [results, Tryz.results57, go_sem]) rfl ⟨rfl, Below.refl _ _⟩
      · have e46 : (C == 46) = false := by simp [c46]
        rw [if_neg (fun h => h.elim (fun h => by rw [hd] at h; cases h) (fun h => c46 h.1))] at hM
        by_cases c34 : C = 34
        · have e34 : (C == 34) = true := by simp [c34]
          rw [if_pos (.inl c34)] at hM
          obtain ⟨r, hr, hkn⟩ := Option.map_eq_some_iff.1 hM
          obtain ⟨rfl, rfl⟩ := Prod.mk.inj hkn
          have ks : Hid _ := fun w (hw : Glob w) => stringLength_any s w hw h0 _ hr hs
          clear hM hr hkn
          go_wp2_with fail
          refine Calls.mono (ks.out _ hG) ?_
          rintro e w3 ⟨rfl, hb⟩
          go_wp2
          exact bodyPost_ret (v := .tuple #[.int .i64 4, .int .i64 r]) (by simp [results, Tryz.results57, go_sem]) rfl ⟨rfl, hb⟩
        · have e34 : (C == 34) = false := by simp [c34]
          by_cases c96 : C = 96
          · have e96 : (C == 96) = true := by simp [c96]
            rw [if_pos (.inr c96)] at hM
            obtain ⟨r, hr, hkn⟩ := Option.map_eq_some_iff.1 hM
            obtain ⟨rfl, rfl⟩ := Prod.mk.inj hkn
            have ks : Hid _ := fun w (hw : Glob w) => stringLength_any s w hw h0 _ hr hs
            clear hM hr hkn
            go_wp2_with fail
            refine Calls.mono (ks.out _ hG) ?_
            rintro e w3 ⟨rfl, hb⟩
            go_wp2
            exact bodyPost_ret (v := .tuple #[.int .i64 4, .int .i64 r]) (by simp [results, Tryz.results57, go_sem]) rfl ⟨rfl, hb⟩
          · have e96 : (C == 96) = false := by simp [c96]
            rw [if_neg (fun h => h.elim c34 c96)] at hM
            by_cases c59 : C = 59
            · have e59 : (C == 59) = true := by simp [c59]
              rw [if_pos c59] at hM
              obtain ⟨rfl, rfl⟩ := split_some hM
              clear hM
              go_wp2
              exact bodyPost_ret (v := .tuple #[.int .i64 7, .int .i64 1]) (by simp [results, Tryz.results57, go_sem]) rfl ⟨rfl, Below.refl _ _⟩
            · have e59 : (C == 59) = false := by simp [c59]
              rw [if_neg c59] at hM
              obtain ⟨rfl, rfl⟩ := split_some hM
              have ko : Hid _ := fun w => operatorLength_any s w hs
              clear hM
              go_wp2_with fail
              refine Calls.mono (ko.out _) ?_
              rintro e w3 ⟨rfl, rfl⟩
              go_wp2
              exact bodyPost_ret (v := .tuple #[.int .i64 5, .int .i64 (opL s.toList)]) (by simp [results, Tryz.results57, go_sem]) rfl ⟨rfl, Below.refl _ _⟩
end Go.Proofs.YtfbacidpjpghiaaGreatDoor
namespace Go.Proofs.YtfbacidpjpghiaaGreatDoor
open Go.RowKit
attribute [local go_sem ↓] Go.wp_at_zero Go.wp_at_succ
/-- A token. -/
structure Tok where
  kind : Int
  text : ByteArray
  at' : Int
def encT (t : Tok) : List Value := [.int .i64 t.kind, .string t.text, .int .i64 t.at']
def flatT (L : List Tok) : List Value := L.flatMap encT
theorem flatT_len (L : List Tok) : (flatT L).length = L.length * 3 := by
  induction L with
  | nil => rfl
  | cons x L ih => simp [flatT, encT] at ih ⊢; omega
theorem flatT_snoc (L : List Tok) (x : Tok) : flatT (L ++ [x]) = flatT L ++ [.int .i64 x.kind, .string x.text, .int .i64 x.at'] := by simp [flatT, encT]
theorem flatT_get (L : List Tok) (i : Nat) (h : i < L.length) : (flatT L)[i * 3]? = some (.int .i64 L[i].kind) ∧ (flatT L)[i * 3 + 1]? = some (.string L[i].text) ∧ (flatT L)[i * 3 + 2]? = some (.int .i64 L[i].at') := by
  induction L generalizing i with
  | nil => simp at h
  | cons x L ih =>
    cases i with
    | zero => exact ⟨rfl, rfl, rfl⟩
    | succ i =>
      have := ih i (by simpa using h)
      have e : (i + 1) * 3 = i * 3 + 1 + 1 + 1 := by omega
      simp only [flatT, encT, List.flatMap_cons, e] at this ⊢
      simpa using this
theorem Tryz.info32 : (Tryz.prog.info? 32).map (fun i => (i.zero, i.size, i.bytes)) = some (some (.agg #[.int .i64 0, .string ⟨#[]⟩, .int .i64 0]), 3, 32) := by kernel_rfl
/-- The reader: its source, its place, its tokens, all from block B on. -/
structure Rd (w : World) (B g : Nat) (src : ByteArray) (pos : Nat) (ts : List Tok) : Prop where
  c0 : w.cell? ⟨g, 0, none⟩ = some (.string src)
  c1 : w.cell? ⟨g, 1, none⟩ = some (.int .i64 pos)
  c2 : ∃ v, w.cell? ⟨g, 2, none⟩ = some v ∧ w.ownsRow B 32 3 v ts.length (flatT ts) ∧ v.ownBlock ≠ some g ∧ ∃ a l c, v = .slice a l c
  fz : ∀ o, w.frozen? ⟨g, o, none⟩ = false
  lo : B ≤ g
  hi : g < w.heap.size
theorem grownBy_of_below {w w' : World} (h : Below w.heap.size w w') (r : Option Nat) : w.grownBy w' r := ⟨h.os, h.tape, h.output, h.size, fun k hk _ => h.block k hk⟩
theorem Rd.next {w w' : World} {B g : Nat} {src : ByteArray} {pos : Nat} {ts : List Tok} (h : Rd w B g src pos ts) (hb : Below w.heap.size w w') : Rd w' B g src pos ts := by
  obtain ⟨c0, c1, ⟨v, v0, v1, v2, v3⟩, fz, lo, hi⟩ := h
  refine ⟨keep_cell hb c0, keep_cell hb c1, ⟨v, keep_cell hb v0, v1.kept (grownBy_of_below hb none) ?_, v2, v3⟩, fun o => by rw [hb.frozen hi]; exact fz o, lo, Nat.lt_of_lt_of_le hi hb.size⟩
  rcases h : v.ownBlock with _ | k
  · exact .inl rfl
  · exact .inr (by simp)
theorem Glob.keep {w w' : World} {B : Nat} (h : Glob w) (hb : Below B w w') (hB : 3 < B) : Glob w' := by
  obtain ⟨⟨⟨h1, h2⟩, te, pe, h4⟩, m, h3⟩ := h
  refine ⟨⟨⟨fun c hc => ?_, fun i hi => ⟨?_, ?_⟩⟩, te, pe, ?_⟩, m, ?_⟩
  · rw [hb.cell (by show 1 < B; omega)]; exact h1 c hc
  · rw [hb.cell (by show 2 < B; omega)]; exact (h2 i hi).1
  · rw [hb.cell (by show 2 < B; omega)]; exact (h2 i hi).2
  · rw [hb.cell (by show 3 < B; omega)]; exact h4
  · rw [hb.cell (by show 0 < B; omega)]; exact h3
/-- The place is turned. -/
theorem Rd.move {w : World} {B g : Nat} {src : ByteArray} {pos : Nat} {ts : List Tok} (h : Rd w B g src pos ts) (p : Nat) : Rd (w.setCell ⟨g, 1, none⟩ (.int .i64 p)) B g src p ts := by
  obtain ⟨c0, c1, ⟨v, v0, v1, v2, v3⟩, fz, lo, hi⟩ := h
  obtain ⟨a, l, c, rfl⟩ := v3
  refine ⟨by simp [go_sem, c0], by simp [go_sem, c1], ⟨_, by simp [go_sem, v0], ownsRow_setCell_other v1 (by exact v2) _, v2, a, l, c, rfl⟩, fun o => by rw [World.frozen?_setCell]; exact fz o, lo, by simp; exact hi⟩
/-- The tokens are turned. -/
theorem Rd.put {w w4 : World} {B g : Nat} {src : ByteArray} {pos : Nat} {ts ts' : List Tok} {a : Option Addr} {l c : Nat} {r : Option Nat} (h : Rd w B g src pos ts) (hg : w.grownBy w4 r) (hr : r ≠ some g) (ho : w4.ownsRow B 32 3 (.slice a l c) ts'.length (flatT ts')) (hne : (Value.slice a l c).ownBlock ≠ some g) : Rd (w4.setCell ⟨g, 2, none⟩ (.slice a l c)) B g src pos ts' := by
  obtain ⟨c0, c1, ⟨v, v0, v1, v2, v3⟩, fz, lo, hi⟩ := h
  have k0 := hg.cell c0 (fun e => hr e.symm)
  have k1 := hg.cell c1 (fun e => hr e.symm)
  have k2 := hg.cell v0 (fun e => hr e.symm)
  refine ⟨by simp [go_sem, k0], by simp [go_sem, k1], ⟨_, by simp [go_sem, k2], ownsRow_setCell_other ho (by exact hne) _, hne, a, l, c, rfl⟩, fun o => by rw [World.frozen?_setCell, hg.frozen_far _ hi (fun e => hr e.symm)]; exact fz o, lo, by simp; exact Nat.lt_of_lt_of_le hi hg.size⟩
set_option maxRecDepth 20000 in
set_option maxHeartbeats 4000000 in
theorem put_any {w : World} {B g : Nat} {src : ByteArray} {pos : Nat} {ts : List Tok} (h : Rd w B g src pos ts) (k a : Int) (s : ByteArray) (hl : ts.length < 1000000000) : Calls Tryz.prog 22 #[.pointer (some ⟨g, 0, none⟩), .int .i64 k, .string s, .int .i64 a] w fun e w' => e = .returned (.tuple #[]) ∧ Rd w' B g src pos (ts ++ [⟨k, s, a⟩]) ∧ Below B w w' := by
  obtain ⟨i0, hi0, hz0, hz1, hz2⟩ := info_parts Tryz.info32
  have hlo := h.lo
  have hgs := h.hi
  obtain ⟨v, v0, v1, v2, va, vl, vc, rfl⟩ := h.c2
  have hBa : Below w.heap.size w (w.alloc (.cells #[.int .i64 k, .string s, .int .i64 a] 32)) := (Below.refl _ _).alloc (Nat.le_refl _) _
  have hO := v1.alloc (.cells #[.int .i64 k, .string s, .int .i64 a] 32)
  have hnews : ∀ j u, ([.int .i64 k, .string s, .int .i64 a] : List Value)[j]? = some u → (w.alloc (.cells #[.int .i64 k, .string s, .int .i64 a] 32)).cell? ((⟨w.heap.size, 0, none⟩ : Addr).add j) = some u := by
    intro j u hj
    rw [addr_add]
    match j, hj with
    | 0, hj => simp at hj; subst hj; simp [go_sem]
    | 1, hj => simp at hj; subst hj; simp [go_sem]
    | 2, hj => simp at hj; subst hj; simp [go_sem]
  have hone : ∀ u ∈ ([.int .i64 k, .string s, .int .i64 a] : List Value), u.oneCell' = true := by
    intro u hu
    simp at hu
    rcases hu with rfl | rfl | rfl <;> rfl
  have hR := h.next hBa
  replace hR : Hid _ := hR
  replace hO : Hid ((w.alloc (.cells #[.int .i64 k, .string s, .int .i64 a] 32)).ownsRow B 32 3 (.slice va vl vc) ts.length (flatT ts)) := hO
  have hvlt := v1.lt
  clear h v1
  go_enter Tryz.func22, Tryz.ntmps22
  go_wp2_with (at_builtin; refine wpList_append_lies _ (by rfl) (.tmp 12) (.tmp 17) 28 (by rfl) B 32 i0 _ 3 32 Tryz.underlying28 hi0 hz0 hz1 hz2 (by rfl) (by decide) (.slice va vl vc) ts.length (flatT ts) (by rfl) hO.out ⟨w.heap.size, 0, none⟩ 1 1 [.int .i64 k, .string s, .int .i64 a] (by rfl) (by rfl) hnews hone (by decide) (by unfold maxLen; omega) (by omega) (by simp; omega) (w.heap.size + 1) (by simp) ?_)
  intro g' cap' w4 hO4 hg4 hat hlt4
  have hne : (Value.slice (some ⟨g', 0, none⟩) (ts.length + 1) cap').ownBlock ≠ some g := by
    intro e
    have e' : g' = g := by simpa [Value.ownBlock] using e
    rcases hat with h1 | h1
    · exact v2 (by rw [h1, e'])
    · omega
  have c4 := hg4.cell (keep_cell hBa v0) (fun e => v2 e.symm)
  have fr4 := hR.out.fz 2
  rw [← hg4.frozen_far ⟨g, 2, none⟩ (by simp; omega) (fun e => v2 e.symm)] at fr4
  have hlen : (ts ++ [(⟨k, s, a⟩ : Tok)]).length = ts.length + 1 := by simp
  have hR4 : Hid _ := hR.out.put (ts' := ts ++ [⟨k, s, a⟩]) hg4 v2 (by rw [hlen, flatT_snoc]; exact hO4) hne
  have hB4 : Below B w w4 := ((Below.refl B w).alloc (by omega) _).grown hg4 (by simp; omega) (fun b hb => (hvlt b hb).1)
  have hBf : Hid (Below B w (w4.setCell ⟨g, 2, none⟩ (.slice (some ⟨g', 0, none⟩) (ts.length + 1) cap'))) := hB4.setCell hlo _
  clear hO4 hg4 hat hne hO hnews hone hR hB4
  go_wp2
  exact bodyPost_end (v := .tuple #[]) (by simp [results, Tryz.results22, go_sem]) rfl ⟨rfl, hR4.out, hBf.out⟩
/-- A line ends. -/
def endL (ts : List Tok) (a : Int) : List Tok := match ts.getLast? with
  | none => ts
  | some t => if asksM t.kind t.text.toList = true then ts ++ [⟨7, ⟨#[10]⟩, a⟩] else ts
set_option maxRecDepth 20000 in
set_option maxHeartbeats 4000000 in
theorem endLine_any {w : World} {B g : Nat} {src : ByteArray} {pos : Nat} {ts : List Tok} (h : Rd w B g src pos ts) (a : Int) (hl : ts.length < 1000000000) : Calls Tryz.prog 21 #[.pointer (some ⟨g, 0, none⟩), .int .i64 a] w fun e w' => e = .returned (.tuple #[]) ∧ Rd w' B g src pos (endL ts a) ∧ Below B w w' := by
  have hlo := h.lo
  have hgs := h.hi
  have hE : Hid (endL ts a = match ts.getLast? with
    | none => ts
    | some t => if asksM t.kind t.text.toList = true then ts ++ [⟨7, ⟨#[10]⟩, a⟩] else ts) := rfl
  obtain ⟨v, v0, v1, v2, va, vl, vc, rfl⟩ := h.c2
  rcases Nat.eq_zero_or_pos ts.length with h0 | h0
  · have ht : ts = [] := List.eq_nil_of_length_eq_zero h0
    subst ht
    have hvl : vl = 0 := by
      rcases v1.2 with ⟨e, _⟩ | ⟨g', cap, cur, e, _⟩
      · cases e; rfl
      · cases e; rfl
    subst hvl
    replace h : Hid _ := h
    clear v1
    go_enter Tryz.func21, Tryz.ntmps21
    go_wp2
    exact bodyPost_end (v := .tuple #[]) (by simp [results, Tryz.results21, go_sem]) rfl ⟨rfl, by rw [hE.out]; exact h.out, Below.refl _ _⟩
  · obtain ⟨g', cap, e, hg1, hg2⟩ := v1.form h0
    cases e
    obtain ⟨n, hn⟩ : ∃ n, ts.length = n + 1 := ⟨ts.length - 1, by omega⟩
    have hlt : n < ts.length := by omega
    obtain ⟨f0, f1, f2⟩ := flatT_get ts n hlt
    have q0 := v1.cellAt (n * 3) (by omega)
    have q1 := v1.cellAt (n * 3 + 1) (by omega)
    have q2 := v1.cellAt (n * 3 + 2) (by omega)
    rw [f0] at q0
    rw [f1] at q1
    rw [f2] at q2
    have hlast : ts.getLast? = some ts[n] := by
      rw [List.getLast?_eq_getElem?, hn]
      simp
    rw [hlast] at hE
    simp only at hE
    generalize ts[n] = t at *
    obtain ⟨tk, tt, ta⟩ := t
    simp only at q0 q1 q2 hE
    have hw1 : IntKind.i64.wrap ((ts.length : Int) - 1) = (n : Int) := by rw [IntKind.wrap_i64]; omega
    have ka : Hid _ := asks_any tk ta tt w
    replace h : Hid _ := h
    have hdg : decide ((ts.length : Int) > 0) = true := decide_eq_true (by omega)
    clear v1 f0 f1 f2 hlast
    go_enter Tryz.func21, Tryz.ntmps21
    go_wp2_with fail
    refine Calls.mono ka.out ?_
    rintro e w2 ⟨rfl, hb⟩
    have hR : Hid _ := h.out.next hb
    have hbB : Below B w w2 := hb.mono (by omega)
    have hl2 : ts.length < 1000000000 := hl
    cases hA : asksM tk tt.toList with
    | true =>
      rw [hA, if_pos rfl] at hE
      have kp : Hid _ := put_any hR.out 7 a ⟨#[10]⟩ hl2
      clear hA hR ka h
      go_wp2_with fail
      refine Calls.mono kp.out ?_
      rintro e w3 ⟨rfl, hR3, hb3⟩
      replace hR3 : Hid _ := hR3
      have hBB := hbB.trans hb3
      go_wp2
      exact bodyPost_end (v := .tuple #[]) (by simp [results, Tryz.results21, go_sem]) rfl ⟨rfl, by rw [hE.out]; exact hR3.out, hBB⟩
    | false =>
      rw [hA, if_neg (by decide)] at hE
      clear hA ka h
      go_wp2
      exact bodyPost_end (v := .tuple #[]) (by simp [results, Tryz.results21, go_sem]) rfl ⟨rfl, by rw [hE.out]; exact hR.out, hbB⟩
end Go.Proofs.YtfbacidpjpghiaaGreatDoor
