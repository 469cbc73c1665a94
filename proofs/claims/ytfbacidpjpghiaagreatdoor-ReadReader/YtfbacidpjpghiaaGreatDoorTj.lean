/- scan: both roads of a literal's value tell the same. -/
import Derived.Test.YtfbacidpjpghiaaGreatDoorTh
import Derived.Test.YtfbacidpjpghiaaGreatDoorSq
namespace Go.Proofs.YtfbacidpjpghiaaGreatDoor
open Go.RowKit
theorem decodeN_take (N M b0 b1 b2 b3 c1 c2 c3 : Nat) (h1 : 1 < M → c1 = b1) (h2 : 2 < M → c2 = b2) (h3 : 3 < M → c3 = b3) (hr : (Lib.decodeN N b0 b1 b2 b3).2 ≤ M) (hb : ¬ ((Lib.decodeN N b0 b1 b2 b3).1 = 65533 ∧ (Lib.decodeN N b0 b1 b2 b3).2 = 1)) : Lib.decodeN M b0 c1 c2 c3 = Lib.decodeN N b0 b1 b2 b3 := by
  unfold Lib.decodeN at hr hb ⊢
  by_cases c0 : b0 < 128
  · rw [if_pos c0, if_pos c0]
  · rw [if_neg c0] at hr hb
    rw [if_neg c0, if_neg c0]
    by_cases s2 : b0 / 32 = 6 ∧ (1 < N ∧ b1 / 64 = 2)
    · rw [if_pos s2] at hr hb ⊢
      by_cases g : b0 % 32 * 64 + b1 % 64 ≥ 128
      · rw [if_pos g] at hr hb ⊢
        simp only at hr
        obtain rfl := h1 (by omega)
        rw [if_pos (show b0 / 32 = 6 ∧ (1 < M ∧ c1 / 64 = 2) from ⟨s2.1, by omega, s2.2.2⟩), if_pos g]
      · rw [if_neg g] at hb
        exact absurd ⟨rfl, rfl⟩ hb
    · rw [if_neg s2] at hr hb ⊢
      by_cases s3 : b0 / 16 = 14 ∧ (1 < N ∧ b1 / 64 = 2) ∧ (2 < N ∧ b2 / 64 = 2)
      · rw [if_pos s3] at hr hb ⊢
        split at hr
        · rename_i g
          rw [if_pos g]
          simp only at hr
          obtain rfl := h1 (by omega)
          obtain rfl := h2 (by omega)
          rw [if_neg (by omega), if_pos (show b0 / 16 = 14 ∧ (1 < M ∧ c1 / 64 = 2) ∧ (2 < M ∧ c2 / 64 = 2) from ⟨s3.1, ⟨by omega, s3.2.1.2⟩, by omega, s3.2.2.2⟩), if_pos g]
        · rename_i g
          rw [if_neg g] at hb
          exact absurd ⟨rfl, rfl⟩ hb
      · rw [if_neg s3] at hr hb ⊢
        by_cases s4 : b0 / 8 = 30 ∧ (1 < N ∧ b1 / 64 = 2) ∧ (2 < N ∧ b2 / 64 = 2) ∧ (3 < N ∧ b3 / 64 = 2)
        · rw [if_pos s4] at hr hb ⊢
          split at hr
          · rename_i g
            rw [if_pos g]
            simp only at hr
            obtain rfl := h1 (by omega)
            obtain rfl := h2 (by omega)
            obtain rfl := h3 (by omega)
            rw [if_neg (by omega), if_neg (by omega), if_pos (show b0 / 8 = 30 ∧ (1 < M ∧ c1 / 64 = 2) ∧ (2 < M ∧ c2 / 64 = 2) ∧ (3 < M ∧ c3 / 64 = 2) from ⟨s4.1, ⟨by omega, s4.2.1.2⟩, ⟨by omega, s4.2.2.1.2⟩, by omega, s4.2.2.2.2⟩), if_pos g]
          · rename_i g
            rw [if_neg g] at hb
            exact absurd ⟨rfl, rfl⟩ hb
        · rw [if_neg s4] at hb
          exact absurd ⟨rfl, rfl⟩ hb
theorem take_get (l : List UInt8) (m j : Nat) (h : j < m) : (l.take m)[j]? = l[j]? := List.getElem?_take_of_lt h
theorem runeL_take (l : List UInt8) (m : Nat) (hm : m ≤ l.length) (h0 : 0 < m) (hr : (runeL l).2 ≤ m) (hb : ¬ ((runeL l).1 = 65533 ∧ (runeL l).2 = 1)) : runeL (l.take m) = runeL l := by
  unfold runeL at hr hb ⊢
  rw [List.length_take, Nat.min_eq_left hm, take_get l m 0 h0]
  exact decodeN_take _ _ _ _ _ _ _ _ _ (fun h => by rw [take_get l m 1 h]) (fun h => by rw [take_get l m 2 h]) (fun h => by rw [take_get l m 3 h]) hr hb
theorem byteAt_take (l : List UInt8) (m k : Nat) (h : k < m) : byteAt (l.take m) k = byteAt l k := by
  unfold byteAt
  rw [List.drop_take]
  cases l.drop k with
  | nil => simp
  | cons c r =>
    obtain ⟨d, hd⟩ : ∃ d, m - k = d + 1 := ⟨m - k - 1, by omega⟩
    rw [hd]
    rfl
theorem hexAt_take (l : List UInt8) (m n : Nat) (h : n ≤ m) (hm : m ≤ l.length) : hexAt (l.take m) n = hexAt l n := by
  unfold hexAt
  rw [List.length_take, Nat.min_eq_left hm, List.take_take, Nat.min_eq_left h, if_neg (by omega), if_neg (by omega)]
/-- A piece is read by its own bytes alone. -/
theorem piece_take (l : List UInt8) (q : Int) (t : List UInt8) (n m : Nat) (hp : pieceM l q = some (t, n + 1)) (hn : n + 1 ≤ m) (hm : m ≤ l.length) : pieceM (l.take m) q = some (t, n + 1) := by
  unfold pieceM at hp ⊢
  rw [byteAt_take l m 0 (by omega)]
  by_cases a1 : q = 96 ∧ byteAt l 0 = 13
  · rw [if_pos a1] at hp ⊢
    exact hp
  · rw [if_neg a1] at hp ⊢
    by_cases a2 : q = 34 ∧ byteAt l 0 = 10
    · rw [if_pos a2] at hp ⊢
      exact hp
    · rw [if_neg a2] at hp ⊢
      by_cases a3 : q = 34 ∧ byteAt l 0 = 92
      · rw [if_pos a3] at hp ⊢
        unfold escM at hp ⊢
        rw [List.length_take, Nat.min_eq_left hm]
        by_cases e0 : l.length < 2
        · rw [if_pos e0] at hp
          cases hp
        · rw [if_neg e0] at hp
          have h2 : 2 ≤ m := by
            split at hp
            · cases hp; exact hn
            · split at hp
              · cases hp; exact hn
              · split at hp
                · cases hp; exact hn
                · split at hp
                  · unfold byteM at hp
                    split at hp
                    · cases hp
                    · cases hp; omega
                  · split at hp
                    · unfold pointM at hp
                      split at hp
                      · cases hp
                      · split at hp
                        · cases hp; omega
                        · cases hp
                    · cases hp
          rw [if_neg (by omega), byteAt_take l m 1 (by omega), List.take_take, Nat.min_eq_left h2]
          by_cases b1 : byteAt l 1 = 92 ∨ byteAt l 1 = 34
          · rw [if_pos b1] at hp ⊢; exact hp
          · rw [if_neg b1] at hp ⊢
            by_cases b2 : byteAt l 1 = 110
            · rw [if_pos b2] at hp ⊢; exact hp
            · rw [if_neg b2] at hp ⊢
              by_cases b3 : byteAt l 1 = 116
              · rw [if_pos b3] at hp ⊢; exact hp
              · rw [if_neg b3] at hp ⊢
                by_cases b4 : byteAt l 1 = 120
                · rw [if_pos b4] at hp ⊢
                  unfold byteM at hp ⊢
                  have h4 : 4 ≤ m := by
                    split at hp
                    · cases hp
                    · cases hp; exact hn
                  rw [hexAt_take l m 4 h4 hm]
                  exact hp
                · rw [if_neg b4] at hp ⊢
                  by_cases b5 : byteAt l 1 = 117
                  · rw [if_pos b5] at hp ⊢
                    unfold pointM at hp ⊢
                    have h6 : 6 ≤ m := by
                      split at hp
                      · cases hp
                      · split at hp
                        · cases hp; exact hn
                        · cases hp
                    rw [hexAt_take l m 6 h6 hm]
                    exact hp
                  · rw [if_neg b5] at hp
                    cases hp
      · rw [if_neg a3] at hp ⊢
        by_cases a4 : (runeL l).1 = 65533 ∧ (runeL l).2 = 1
        · rw [if_pos a4] at hp
          cases hp
        · rw [if_neg a4] at hp
          obtain ⟨ht, hn2⟩ := Prod.mk.inj (Option.some.inj hp)
          rw [runeL_take l m hm (by omega) (by omega) a4, if_neg a4, List.take_take, Nat.min_eq_left (by omega)]
          exact hp
theorem ba_size' (l : List UInt8) : (ba l).size = l.length := by rw [← toList_len, ba_toList]
theorem piece_le (l : List UInt8) (q : Int) (t : List UInt8) (n : Nat) (h0 : 0 < l.length) (h : pieceM l q = some (t, n)) : n ≤ l.length := by
  have hs : (ba l).toList = l := ba_toList l
  have := pieceM_le (ba l) (by rw [ba_size']; exact h0) (q := q) (t := t) (n := n) (by rw [hs]; exact h)
  rw [ba_size'] at this
  exact this
theorem txt_go (l : List UInt8) (q : Int) (f k : Nat) (acc : List UInt8) (hk : 1 ≤ k) (hkl : k ≤ l.length) (hf : l.length < f + k) : ∃ r out, txtGo l q 0 f k acc = some (r, out) ∧ strGo l q f k = some r ∧
    (r = l.length → ∀ F, l.length < F + k → ∃ rest, out = acc ++ rest ∧ valGo q F ((l.take (l.length - 1)).drop k) = some rest) := by
  induction f generalizing k acc with
  | zero => omega
  | succ f ih =>
    unfold txtGo strGo
    by_cases hlt : k < l.length
    · rw [if_pos hlt]
      by_cases hq : byteAt l k = q
      · rw [if_pos hq, if_neg (fun h => h.2 hq), if_neg (by omega)]
        refine ⟨_, _, rfl, rfl, fun hr F hF => ⟨[], by simp, ?_⟩⟩
        rw [List.drop_eq_nil_of_le (by simp; omega)]
        obtain ⟨F', rfl⟩ : ∃ F', F = F' + 1 := ⟨F - 1, by omega⟩
        unfold valGo
        rw [if_pos rfl]
      · rw [if_neg hq, if_pos ⟨hlt, hq⟩]
        obtain ⟨t, n, hp⟩ := pieceM_some (l.drop k) q
        have hle := piece_le _ q t n (by rw [List.length_drop]; omega) hp
        rw [List.length_drop] at hle
        rw [hp]
        cases n with
        | zero => exact ⟨0, [], rfl, rfl, fun h => by omega⟩
        | succ n =>
          obtain ⟨r, out, h1, h2, h3⟩ := ih (k + (n + 1)) (acc ++ t) (by omega) (by omega) (by omega)
          refine ⟨r, out, h1, h2, fun hr F hF => ?_⟩
          have hlt2 : k + (n + 1) < l.length := by
            rcases Nat.lt_or_ge (k + (n + 1)) l.length with h | h
            · exact h
            · exfalso
              cases f with
              | zero => cases h2
              | succ f =>
                unfold strGo at h2
                rw [if_neg (by omega), if_pos (by omega)] at h2
                have := Option.some.inj h2
                omega
          obtain ⟨F', rfl⟩ : ∃ F', F = F' + 1 := ⟨F - 1, by omega⟩
          obtain ⟨rest, h4, h5⟩ := h3 hr F' (by omega)
          refine ⟨t ++ rest, by rw [h4, List.append_assoc], ?_⟩
          unfold valGo
          have hne : ¬ (l.take (l.length - 1)).drop k = [] := by
            intro h
            have := congrArg List.length h
            simp at this
            omega
          rw [if_neg hne]
          have hpc : pieceM ((l.take (l.length - 1)).drop k) q = some (t, n + 1) := by
            rw [List.drop_take]
            exact piece_take _ q t n _ hp (by omega) (by rw [List.length_drop]; omega)
          rw [hpc]
          simp only [List.drop_drop]
          rw [h5]
          rfl
    · obtain rfl : k = l.length := by omega
      rw [if_neg hlt, if_neg (fun h => hlt h.1), if_pos rfl]
      exact ⟨0, [], rfl, rfl, fun h => by omega⟩
/-- A literal's value by the second road. -/
theorem val_text (l : List UInt8) (hl : 0 < l.length) (hq : byteAt l 0 = 34 ∨ byteAt l 0 = 96) : ∃ r out, txtGo l (byteAt l 0) 0 (l.length + 1) 1 [] = some (r, out) ∧ valM l = some (if r = l.length then out else [], decide (r = l.length)) := by
  obtain ⟨r, out, h1, h2, h3⟩ := txt_go l (byteAt l 0) (l.length + 1) 1 [] (Nat.le_refl _) hl (by omega)
  refine ⟨r, out, h1, ?_⟩
  unfold valM
  rw [if_neg (by intro h; rw [h] at hl; simp at hl)]
  have hs : strM l = some r := by
    unfold strM
    rw [if_neg (by omega)]
    exact h2
  rw [hs]
  simp only
  by_cases hr : r = l.length
  · obtain ⟨rest, h4, h5⟩ := h3 hr (l.length + 1) (by omega)
    rw [List.nil_append] at h4
    rw [if_pos hr, if_pos hr, h5, h4, decide_eq_true hr]
    rfl
  · rw [if_neg hr, if_neg hr, decide_eq_false hr]
theorem val_none (l : List UInt8) (hq : ¬ (0 < l.length ∧ (byteAt l 0 = 34 ∨ byteAt l 0 = 96))) : valM l = some ([], false) := by
  unfold valM
  by_cases hl : l = []
  · rw [if_pos hl]
  · rw [if_neg hl]
    have hp : 0 < l.length := List.length_pos_iff.2 hl
    have hs : strM l = some 0 := by
      unfold strM
      rw [if_pos ⟨fun h => hq ⟨hp, .inl h⟩, fun h => hq ⟨hp, .inr h⟩⟩]
    rw [hs]
    simp only
    rw [if_neg (by omega)]
end Go.Proofs.YtfbacidpjpghiaaGreatDoor
