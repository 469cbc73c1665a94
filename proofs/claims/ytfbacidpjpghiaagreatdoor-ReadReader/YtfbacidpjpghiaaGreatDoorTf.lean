/- scan: the second road's utf and the library's decoding tell the same length. -/
import Derived.Test.YtfbacidpjpghiaaGreatDoorTe
import Derived.Test.YtfbacidpjpghiaaGreatDoorSkm
namespace Go.Proofs.YtfbacidpjpghiaaGreatDoor
open Go.RowKit
theorem utfT2 (l : List UInt8) (i v least : Nat) : utfT l i 2 v least = if l.length < i + 2 ∨ (l.getD (i + 1) 0).toNat / 64 ≠ 2 then 0 else utfEnd 2 (v * 64 + (l.getD (i + 1) 0).toNat % 64) least := by
  unfold utfT
  by_cases h : l.length < i + 2
  · rw [if_pos h, if_pos (.inl h)]
  · rw [if_neg h]
    simp only [contGo, Nat.reduceSub]
    by_cases h1 : (l.getD (i + 1) 0).toNat / 64 = 2
    · rw [if_neg (by omega), if_neg (by omega)]
    · rw [if_pos h1, if_pos (.inr h1)]
theorem utfT3 (l : List UInt8) (i v least : Nat) : utfT l i 3 v least = if l.length < i + 3 ∨ (l.getD (i + 1) 0).toNat / 64 ≠ 2 ∨ (l.getD (i + 2) 0).toNat / 64 ≠ 2 then 0 else utfEnd 3 ((v * 64 + (l.getD (i + 1) 0).toNat % 64) * 64 + (l.getD (i + 2) 0).toNat % 64) least := by
  unfold utfT
  by_cases h : l.length < i + 3
  · rw [if_pos h, if_pos (.inl h)]
  · rw [if_neg h]
    simp only [contGo, Nat.reduceSub, Nat.add_assoc, Nat.reduceAdd]
    by_cases h1 : (l.getD (i + 1) 0).toNat / 64 = 2
    · rw [if_neg (by omega)]
      by_cases h2 : (l.getD (i + 2) 0).toNat / 64 = 2
      · rw [if_neg (by omega), if_neg (by omega)]
      · rw [if_pos h2, if_pos (.inr (.inr h2))]
    · rw [if_pos h1, if_pos (.inr (.inl h1))]
theorem utfT4 (l : List UInt8) (i v least : Nat) : utfT l i 4 v least = if l.length < i + 4 ∨ (l.getD (i + 1) 0).toNat / 64 ≠ 2 ∨ (l.getD (i + 2) 0).toNat / 64 ≠ 2 ∨ (l.getD (i + 3) 0).toNat / 64 ≠ 2 then 0 else utfEnd 4 (((v * 64 + (l.getD (i + 1) 0).toNat % 64) * 64 + (l.getD (i + 2) 0).toNat % 64) * 64 + (l.getD (i + 3) 0).toNat % 64) least := by
  unfold utfT
  by_cases h : l.length < i + 4
  · rw [if_pos h, if_pos (.inl h)]
  · rw [if_neg h]
    simp only [contGo, Nat.reduceSub, Nat.add_assoc, Nat.reduceAdd]
    by_cases h1 : (l.getD (i + 1) 0).toNat / 64 = 2
    · rw [if_neg (by omega)]
      by_cases h2 : (l.getD (i + 2) 0).toNat / 64 = 2
      · rw [if_neg (by omega)]
        by_cases h3 : (l.getD (i + 3) 0).toNat / 64 = 2
        · rw [if_neg (by omega), if_neg (by omega)]
        · rw [if_pos h3, if_pos (.inr (.inr (.inr h3)))]
      · rw [if_pos h2, if_pos (.inr (.inr (.inl h2)))]
    · rw [if_pos h1, if_pos (.inr (.inl h1))]
theorem drop_getD (l : List UInt8) (i j : Nat) : (l.drop i)[j]?.getD 0 = l.getD (i + j) 0 := by
  rw [List.getElem?_drop, List.getD_eq_getElem?_getD]
set_option maxHeartbeats 4000000 in
theorem utf_eq (l : List UInt8) (i : Nat) (hi : i < l.length) : utfM l i = if (runeL (l.drop i)).1 = 65533 ∧ (runeL (l.drop i)).2 = 1 then 0 else (runeL (l.drop i)).2 := by
  unfold utfM runeL
  rw [utfT2, utfT3, utfT4, drop_getD, drop_getD, drop_getD, drop_getD, List.length_drop, Nat.add_zero]
  have h0 : (l.getD i 0).toNat < 256 := UInt8.toNat_lt _
  have h1 : (l.getD (i + 1) 0).toNat < 256 := UInt8.toNat_lt _
  have h2 : (l.getD (i + 2) 0).toNat < 256 := UInt8.toNat_lt _
  have h3 : (l.getD (i + 3) 0).toNat < 256 := UInt8.toNat_lt _
  generalize (l.getD i 0).toNat = b0 at *
  generalize (l.getD (i + 1) 0).toNat = b1 at *
  generalize (l.getD (i + 2) 0).toNat = b2 at *
  generalize (l.getD (i + 3) 0).toNat = b3 at *
  obtain ⟨N, hN⟩ : ∃ N, N = l.length - i := ⟨_, rfl⟩
  have e2 : (l.length < i + 2) = (N < 2) := propext ⟨fun h => by omega, fun h => by omega⟩
  have e3 : (l.length < i + 3) = (N < 3) := propext ⟨fun h => by omega, fun h => by omega⟩
  have e4 : (l.length < i + 4) = (N < 4) := propext ⟨fun h => by omega, fun h => by omega⟩
  rw [← hN]
  simp only [e2, e3, e4]
  clear e2 e3 e4 hN hi
  rcases hd : Lib.decodeN N b0 b1 b2 b3 with ⟨R, m⟩
  unfold Lib.decodeN at hd
  unfold utfEnd
  simp only
  by_cases c0 : b0 < 128
  · rw [if_pos c0] at hd
    obtain ⟨rfl, rfl⟩ := Prod.mk.inj hd
    rw [if_pos c0, if_neg (by omega)]
  · rw [if_neg c0] at hd
    rw [if_neg c0]
    by_cases c1 : b0 < 192
    · rw [if_neg (by omega), if_neg (by omega), if_neg (by omega)] at hd
      obtain ⟨rfl, rfl⟩ := Prod.mk.inj hd
      rw [if_neg (by omega), if_neg (by omega), if_neg (by omega), if_pos ⟨rfl, rfl⟩]
    · by_cases c2 : b0 < 224
      · have s1 : ¬ (b0 / 16 = 14 ∧ (1 < N ∧ b1 / 64 = 2) ∧ (2 < N ∧ b2 / 64 = 2)) := by omega
        have s2 : ¬ (b0 / 8 = 30 ∧ (1 < N ∧ b1 / 64 = 2) ∧ (2 < N ∧ b2 / 64 = 2) ∧ (3 < N ∧ b3 / 64 = 2)) := by omega
        rw [if_neg s1, if_neg s2] at hd
        clear s1 s2
        repeat' (split at hd)
        all_goals obtain ⟨rfl, rfl⟩ := Prod.mk.inj hd
        all_goals repeat' split
        all_goals omega
      · by_cases c3 : b0 < 240
        · have s1 : ¬ (b0 / 32 = 6 ∧ (1 < N ∧ b1 / 64 = 2)) := by omega
          have s2 : ¬ (b0 / 8 = 30 ∧ (1 < N ∧ b1 / 64 = 2) ∧ (2 < N ∧ b2 / 64 = 2) ∧ (3 < N ∧ b3 / 64 = 2)) := by omega
          rw [if_neg s1, if_neg s2] at hd
          clear s1 s2
          repeat' (split at hd)
          all_goals obtain ⟨rfl, rfl⟩ := Prod.mk.inj hd
          all_goals repeat' split
          all_goals omega
        · have s1 : ¬ (b0 / 32 = 6 ∧ (1 < N ∧ b1 / 64 = 2)) := by omega
          have s2 : ¬ (b0 / 16 = 14 ∧ (1 < N ∧ b1 / 64 = 2) ∧ (2 < N ∧ b2 / 64 = 2)) := by omega
          rw [if_neg s1, if_neg s2] at hd
          clear s1 s2
          repeat' (split at hd)
          all_goals obtain ⟨rfl, rfl⟩ := Prod.mk.inj hd
          all_goals repeat' split
          all_goals omega
end Go.Proofs.YtfbacidpjpghiaaGreatDoor
