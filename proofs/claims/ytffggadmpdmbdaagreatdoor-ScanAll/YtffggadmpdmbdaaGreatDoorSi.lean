/- scan: whole strings; every token's kind and length. -/
import Derived.Test.YtffggadmpdmbdaaGreatDoorSh
namespace Go.Proofs.YtffggadmpdmbdaaGreatDoor
open Go.RowKit
attribute [local go_sem ↓] Go.wp_at_zero Go.wp_at_succ
theorem escM_le {l : List UInt8} {t : List UInt8} {n : Nat} (h : escM l = some (t, n)) : n ≤ l.length := by
  unfold escM at h
  split at h
  · cases h; exact Nat.zero_le _
  · split at h
    · cases h; omega
    · split at h
      · cases h; omega
      · split at h
        · cases h; omega
        · split at h
          · have h2 := (byteM_le l).1
            rw [Option.some.inj h] at h2
            exact h2
          · split at h
            · have h2 := (pointM_le l).1
              rw [Option.some.inj h] at h2
              exact h2
            · cases h; exact Nat.zero_le _
theorem pieceM_le (s : ByteArray) (h0 : 0 < s.size) {q : Int} {t : List UInt8} {n : Nat} (h : pieceM s.toList q = some (t, n)) : n ≤ s.size := by
  have hr := (runeL_le s h0).1
  unfold pieceM at h
  split at h
  · cases h; omega
  · split at h
    · cases h; omega
    · split at h
      · have := escM_le h
        rw [toList_len] at this
        exact this
      · split at h
        · cases h; omega
        · cases h; exact hr
/-- Where a literal whose inside is read up to a place ends; 0: it is wrong. -/
def strGo (l : List UInt8) (q : Int) : Nat → Nat → Option Nat
  | 0, _ => none
  | f + 1, a => if a < l.length ∧ byteAt l a ≠ q then (match pieceM (l.drop a) q with
      | none => none
      | some (_, 0) => some 0
      | some (_, n + 1) => strGo l q f (a + (n + 1))) else if a = l.length then some 0 else some (a + 1)
theorem strGo_le (s : ByteArray) (q : Int) (f a r : Nat) (ha : a ≤ s.size) (h : strGo s.toList q f a = some r) : r ≤ s.size := by
  induction f generalizing a with
  | zero => cases h
  | succ f ih =>
    unfold strGo at h
    rw [toList_len] at h
    split at h
    · rename_i hc
      split at h
      · cases h
      · cases h; exact Nat.zero_le _
      · rename_i t n hp
        refine ih _ ?_ h
        have := pieceM_le (s.extract a s.size) (by rw [ByteArray.size_extract]; omega) (q := q) (t := t) (n := n + 1) (by rw [toList_drop]; exact hp)
        rw [ByteArray.size_extract] at this
        omega
    · split at h
      · cases h; exact Nat.zero_le _
      · cases h; omega
def strM (l : List UInt8) : Option Nat := if byteAt l 0 ≠ 34 ∧ byteAt l 0 ≠ 96 then some 0 else strGo l (byteAt l 0) (l.length + 1) 1
theorem strM_le (s : ByteArray) (h0 : 0 < s.size) {r : Nat} (h : strM s.toList = some r) : r ≤ s.size := by
  unfold strM at h
  split at h
  · cases h; exact Nat.zero_le _
  · exact strGo_le s _ _ _ _ (by omega) h
set_option maxRecDepth 20000 in
set_option maxHeartbeats 4000000 in
theorem stringLength_any (s : ByteArray) (w : World) (hG : Glob w) (h0 : 0 < s.size) (r : Nat) (hM : strM s.toList = some r) (hs : s.size < 4611686018427387904) : Calls Tryz.prog 23 #[.string s] w fun e w' => e = .returned (.int .i64 r) ∧ Below w.heap.size w w' := by
  unfold strM at hM
  have hz := byteAt_lt s h0
  rw [hz, toList_len] at hM
  obtain ⟨q, hq0⟩ : ∃ q : Int, q = ((s[0]'h0).toNat : Int) := ⟨_, rfl⟩
  rw [← hq0] at hM
  clear hz
  go_enter Tryz.func23, Tryz.ntmps23
  by_cases c1 : ((s[0]'h0).toNat : Int) = 34
  · have e1 : (((s[0]'h0).toNat : Int) != 34) = false := by simp [c1]
    obtain rfl : q = 34 := by omega
    rw [if_neg (by omega)] at hM
    replace hM : Hid _ := hM
    clear hq0
    go_wp2
    go_loopw [4, 5, 6] (fun a p m wr => ∃ (k f : Nat), a = .int .i64 k ∧ k ≤ s.size ∧ Hid (strGo s.toList 34 f k = some r) ∧ Below w.heap.size w wr) (fun a _ _ _ => (s.size - intOf a).toNat)
    case atStart => exact ⟨1, s.size + 1, rfl, by omega, hM.out, Below.refl _ _⟩
    case round =>
      obtain ⟨k, f, rfl, hk, hI, hb⟩ := hrel
      cases f with
      | zero => exact absurd hI.out (by unfold strGo; simp)
      | succ f =>
        have hI' := hI.out
        unfold strGo at hI'
        rw [toList_len] at hI'
        by_cases hlt : k < s.size
        · have d1 : decide ((k : Int) < s.size) = true := decide_eq_true (by omega)
          have hbt := byteAt_lt s hlt
          rw [hbt] at hI'
          by_cases hq : ((s[k]'hlt).toNat : Int) = 34
          · have d2 : (((s[k]'hlt).toNat : Int) != 34) = false := by simp [hq]
            have d3 : ((k : Int) == s.size) = false := by simp; omega
            rw [if_neg (fun h => h.2 hq), if_neg (by omega)] at hI'
            obtain rfl := Option.some.inj hI'
            clear hbt hI hq
            go_wp2
            go_ret
            exact ⟨rfl, hb⟩
          · have d2 : (((s[k]'hlt).toNat : Int) != 34) = true := by simp [hq]
            rw [if_pos ⟨hlt, hq⟩] at hI'
            have hsz : (s.extract k s.size).size = s.size - k := by rw [ByteArray.size_extract]; omega
            have kp : Hid (∀ t n, pieceM (s.toList.drop k) 34 = some (t, n) → Calls Tryz.prog 24 #[.string (s.extract k s.size), .int .u8 34] wr fun e w' => ∃ b : ByteArray, e = .returned (.tuple #[.string b, .int .i64 n]) ∧ b.toList = t ∧ Below wr.heap.size wr w') := fun t n h => readPiece_any (s.extract k s.size) 34 wr (hG.next hb) (by omega) t n (by rw [toList_drop]; exact h) (by omega)
            have kl : Hid (∀ t n, pieceM (s.toList.drop k) 34 = some (t, n) → k + n ≤ s.size) := fun t n h => by
              have := pieceM_le (s.extract k s.size) (by omega) (q := 34) (t := t) (n := n) (by rw [toList_drop]; exact h)
              omega
            clear hbt hI hsz
            cases hp : pieceM (s.toList.drop k) 34 with
            | none => rw [hp] at hI'; cases hI'
            | some tn =>
              obtain ⟨t, n⟩ := tn
              rw [hp] at hI'
              replace kp : Hid _ := kp.out t n hp
              replace kl := kl.out t n hp
              clear hp
              go_wp2_with fail
              refine Calls.mono kp.out ?_
              rintro e w2 ⟨b, rfl, hbt, hb2⟩
              clear kp
              have hB := bthen hb hb2
              cases n with
              | zero =>
                obtain rfl := Option.some.inj hI'
                go_wp2
                go_ret
                exact ⟨rfl, hB⟩
              | succ n =>
                have d4 : (((n + 1 : Nat) : Int) == 0) = false := by simp; omega
                replace hI' : Hid (strGo s.toList 34 f (k + (n + 1)) = some r) := hI'
                go_wp2
                go_roundw
                case rel => exact ⟨k + (n + 1), f, by go_num, by omega, hI'.out, hB⟩
                case measure => simp [intOf]; omega
        · have hke : k = s.size := by omega
          have d1 : decide ((k : Int) < s.size) = false := decide_eq_false (by omega)
          have d3 : ((k : Int) == s.size) = true := by simp [hke]
          rw [if_neg (fun h => hlt h.1), if_pos hke] at hI'
          obtain rfl := Option.some.inj hI'
          clear hI hke
          go_wp2
          go_ret
          exact ⟨rfl, hb⟩
  · have e1 : (((s[0]'h0).toNat : Int) != 34) = true := by simp [c1]
    by_cases c2 : ((s[0]'h0).toNat : Int) = 96
    · have e2 : (((s[0]'h0).toNat : Int) != 96) = false := by simp [c2]
      obtain rfl : q = 96 := by omega
      rw [if_neg (by omega)] at hM
      replace hM : Hid _ := hM
      clear hq0
      go_wp2
      go_loopw [4, 5, 6] (fun a p m wr => ∃ (k f : Nat), a = .int .i64 k ∧ k ≤ s.size ∧ Hid (strGo s.toList 96 f k = some r) ∧ Below w.heap.size w wr) (fun a _ _ _ => (s.size - intOf a).toNat)
      case atStart => exact ⟨1, s.size + 1, rfl, by omega, hM.out, Below.refl _ _⟩
      case round =>
        obtain ⟨k, f, rfl, hk, hI, hb⟩ := hrel
        cases f with
        | zero => exact absurd hI.out (by unfold strGo; simp)
        | succ f =>
          have hI' := hI.out
          unfold strGo at hI'
          rw [toList_len] at hI'
          by_cases hlt : k < s.size
          · have d1 : decide ((k : Int) < s.size) = true := decide_eq_true (by omega)
            have hbt := byteAt_lt s hlt
            rw [hbt] at hI'
            by_cases hq : ((s[k]'hlt).toNat : Int) = 96
            · have d2 : (((s[k]'hlt).toNat : Int) != 96) = false := by simp [hq]
              have d3 : ((k : Int) == s.size) = false := by simp; omega
              rw [if_neg (fun h => h.2 hq), if_neg (by omega)] at hI'
              obtain rfl := Option.some.inj hI'
              clear hbt hI hq
              go_wp2
              go_ret
              exact ⟨rfl, hb⟩
            · have d2 : (((s[k]'hlt).toNat : Int) != 96) = true := by simp [hq]
              rw [if_pos ⟨hlt, hq⟩] at hI'
              have hsz : (s.extract k s.size).size = s.size - k := by rw [ByteArray.size_extract]; omega
              have kp : Hid (∀ t n, pieceM (s.toList.drop k) 96 = some (t, n) → Calls Tryz.prog 24 #[.string (s.extract k s.size), .int .u8 96] wr fun e w' => ∃ b : ByteArray, e = .returned (.tuple #[.string b, .int .i64 n]) ∧ b.toList = t ∧ Below wr.heap.size wr w') := fun t n h => readPiece_any (s.extract k s.size) 96 wr (hG.next hb) (by omega) t n (by rw [toList_drop]; exact h) (by omega)
              have kl : Hid (∀ t n, pieceM (s.toList.drop k) 96 = some (t, n) → k + n ≤ s.size) := fun t n h => by
                have := pieceM_le (s.extract k s.size) (by omega) (q := 96) (t := t) (n := n) (by rw [toList_drop]; exact h)
                omega
              clear hbt hI hsz
              cases hp : pieceM (s.toList.drop k) 96 with
              | none => rw [hp] at hI'; cases hI'
              | some tn =>
                obtain ⟨t, n⟩ := tn
                rw [hp] at hI'
                replace kp : Hid _ := kp.out t n hp
                replace kl := kl.out t n hp
                clear hp
                go_wp2_with fail
                refine Calls.mono kp.out ?_
                rintro e w2 ⟨b, rfl, hbt, hb2⟩
                clear kp
                have hB := bthen hb hb2
                cases n with
                | zero =>
                  obtain rfl := Option.some.inj hI'
                  go_wp2
                  go_ret
                  exact ⟨rfl, hB⟩
                | succ n =>
                  have d4 : (((n + 1 : Nat) : Int) == 0) = false := by simp; omega
                  replace hI' : Hid (strGo s.toList 96 f (k + (n + 1)) = some r) := hI'
                  go_wp2
                  go_roundw
                  case rel => exact ⟨k + (n + 1), f, by go_num, by omega, hI'.out, hB⟩
                  case measure => simp [intOf]; omega
          · have hke : k = s.size := by omega
            have d1 : decide ((k : Int) < s.size) = false := decide_eq_false (by omega)
            have d3 : ((k : Int) == s.size) = true := by simp [hke]
            rw [if_neg (fun h => hlt h.1), if_pos hke] at hI'
            obtain rfl := Option.some.inj hI'
            clear hI hke
            go_wp2
            go_ret
            exact ⟨rfl, hb⟩
    · have e2 : (((s[0]'h0).toNat : Int) != 96) = true := by simp [c2]
      rw [if_pos (by omega)] at hM
      obtain rfl := Option.some.inj hM
      clear hq0 hM
      go_wp2
      go_ret
      exact ⟨rfl, Below.refl _ _⟩
end Go.Proofs.YtffggadmpdmbdaaGreatDoor
