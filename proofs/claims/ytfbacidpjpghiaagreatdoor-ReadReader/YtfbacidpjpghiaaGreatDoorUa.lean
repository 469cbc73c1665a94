/- scan: a token is read by its own bytes and the blank behind them. -/
import Derived.Test.YtfbacidpjpghiaaGreatDoorTj
namespace Go.Proofs.YtfbacidpjpghiaaGreatDoor
open Go.RowKit
/-- The first n bytes, a blank, and what follows. -/
def ext (l : List UInt8) (n : Nat) (R : List UInt8) : List UInt8 := l.take n ++ 32 :: R
theorem ext_zero (l R : List UInt8) : ext l 0 R = 32 :: R := rfl
theorem ext_succ (c : UInt8) (l : List UInt8) (n : Nat) (R : List UInt8) : ext (c :: l) (n + 1) R = c :: ext l n R := rfl
theorem ext_len (l : List UInt8) (n : Nat) (R : List UInt8) (h : n ≤ l.length) : (ext l n R).length = n + 1 + R.length := by
  unfold ext
  rw [List.length_append, List.length_take, Nat.min_eq_left h, List.length_cons]
  omega
theorem ext_drop (l : List UInt8) (n k : Nat) (R : List UInt8) (hk : k ≤ n) (h : n ≤ l.length) : (ext l n R).drop k = ext (l.drop k) (n - k) R := by
  unfold ext
  rw [List.drop_append_of_le_length (by rw [List.length_take]; omega), List.drop_take]
theorem ext_take (l : List UInt8) (n k : Nat) (R : List UInt8) (hk : k ≤ n) (h : n ≤ l.length) : (ext l n R).take k = l.take k := by
  unfold ext
  rw [List.take_append_of_le_length (by rw [List.length_take]; omega), List.take_take, Nat.min_eq_left hk]
theorem ext_lt (l : List UInt8) (n k : Nat) (R : List UInt8) (hk : k < n) (h : n ≤ l.length) : byteAt (ext l n R) k = byteAt l k := by
  unfold byteAt
  rw [ext_drop l n k R (by omega) h]
  have hkl : k < l.length := by omega
  rw [List.drop_eq_getElem_cons hkl]
  obtain ⟨d, hd⟩ : ∃ d, n - k = d + 1 := ⟨n - k - 1, by omega⟩
  rw [hd, ext_succ]
theorem ext_eq (l : List UInt8) (n : Nat) (R : List UInt8) (h : n ≤ l.length) : byteAt (ext l n R) n = 32 := by
  unfold byteAt
  rw [ext_drop l n n R (Nat.le_refl _) h, Nat.sub_self, ext_zero]
  rfl
theorem ext_le (l : List UInt8) (n k : Nat) (R : List UInt8) (hk : k ≤ n) (h : n ≤ l.length) : byteAt (ext l n R) k = byteAt l k ∨ (k = n ∧ byteAt (ext l n R) k = 32) := by
  rcases Nat.lt_or_ge k n with h1 | h1
  · exact .inl (ext_lt l n k R h1 h)
  · obtain rfl : k = n := by omega
    exact .inr ⟨rfl, ext_eq l k R h⟩
theorem span_ext (p : Int → Bool) (hp : p 32 = false) (l : List UInt8) (n : Nat) (R : List UInt8) (hs : spanL p l ≤ n) (h : n ≤ l.length) : spanL p (ext l n R) = spanL p l := by
  induction l generalizing n with
  | nil =>
    obtain rfl : n = 0 := by simpa using h
    rw [ext_zero]
    simp [spanL, hp]
  | cons c l ih =>
    cases n with
    | zero =>
      rw [ext_zero]
      have : spanL p (c :: l) = 0 := by omega
      rw [this]
      simp [spanL, hp]
    | succ n =>
      rw [ext_succ]
      unfold spanL at hs ⊢
      split
      · rename_i hc
        rw [if_pos hc] at hs
        rw [ih n (by omega) (by simpa using h)]
      · rfl
theorem digits_ext (p : Int → Bool) (hp : p 32 = false) (l : List UInt8) (n : Nat) (R : List UInt8) (hs : (digitsM p l).1 ≤ n) (h : n ≤ l.length) : digitsM p (ext l n R) = digitsM p l := by
  unfold digitsM at hs ⊢
  by_cases hd : byteAt l (spanL p l) = 46
  · rw [if_pos hd] at hs
    simp only at hs
    rw [span_ext p hp l n R (by omega) h, ext_lt l n _ R (by omega) h, ext_drop l n _ R (by omega) h, if_pos hd, if_pos hd,
      span_ext p hp _ _ R (by omega) (by rw [List.length_drop]; omega)]
  · rw [if_neg hd] at hs
    simp only at hs
    rw [span_ext p hp l n R hs h, if_neg hd, if_neg]
    rcases ext_le l n (spanL p l) R hs h with h1 | ⟨_, h1⟩
    · rw [h1]; exact hd
    · rw [h1]; decide
theorem exp_gt (l : List UInt8) (m n : Nat) (h : expM l m = n) (h0 : 0 < n) : m + 1 < n ∧ n = expAt l m + spanL isDigitB (l.drop (expAt l m)) ∧ 0 < spanL isDigitB (l.drop (expAt l m)) ∧ m + 1 ≤ expAt l m := by
  have ha : m + 1 ≤ expAt l m := by unfold expAt; split <;> omega
  unfold expM at h
  split at h
  · omega
  · rename_i hc
    have : spanL isDigitB (l.drop (expAt l m)) ≠ 0 := fun h => hc (.inl h)
    omega
theorem exp_ext (l : List UInt8) (m n : Nat) (R : List UInt8) (hx : expM l m = n) (h0 : 0 < n) (h : n ≤ l.length) : expM (ext l n R) m = n := by
  obtain ⟨h1, h2, h3, h4⟩ := exp_gt l m n hx h0
  have ea : expAt (ext l n R) m = expAt l m := by
    unfold expAt
    rw [ext_lt l n (m + 1) R h1 h]
  unfold expM at hx ⊢
  rw [ea, ext_drop l n _ R (by omega) h, span_ext isDigitB rfl _ _ R (by omega) (by rw [List.length_drop]; omega), ext_take l n _ R (by omega) h]
  exact hx
theorem decimal_ext (l : List UInt8) (kd : Int) (n : Nat) (R : List UInt8) (hx : decimalM l = (kd, n)) (h0 : 0 < n) (h : n ≤ l.length) : decimalM (ext l n R) = (kd, n) := by
  unfold decimalM at hx ⊢
  by_cases he : byteAt l (digitsM isDigitB l).1 = 101 ∨ byteAt l (digitsM isDigitB l).1 = 69
  · rw [if_pos he] at hx
    obtain ⟨rfl, hn⟩ := Prod.mk.inj hx
    obtain ⟨h1, _⟩ := exp_gt _ _ _ hn h0
    rw [digits_ext isDigitB rfl l n R (by omega) h, ext_lt l n _ R (by omega) h, if_pos he, exp_ext _ _ _ R hn h0 h]
  · rw [if_neg he] at hx
    have hb : ∀ m, (digitsM isDigitB l).1 = m → m = n → ¬ (byteAt (ext l n R) m = 101 ∨ byteAt (ext l n R) m = 69) := by
      intro m _ hm
      rw [hm, ext_eq l n R h]
      decide
    by_cases hd : (digitsM isDigitB l).2.2 = true
    · rw [if_pos hd] at hx
      obtain ⟨rfl, hn⟩ := Prod.mk.inj hx
      rw [digits_ext isDigitB rfl l n R (by omega) h, if_neg (hb _ rfl hn), if_pos hd, hn]
    · rw [if_neg hd] at hx
      by_cases hz : 1 < (digitsM isDigitB l).2.1 ∧ byteAt l 0 = 48
      · rw [if_pos hz] at hx
        have := (Prod.mk.inj hx).2
        omega
      · rw [if_neg hz] at hx
        obtain ⟨rfl, hn⟩ := Prod.mk.inj hx
        rw [digits_ext isDigitB rfl l n R (by omega) h, if_neg (hb _ rfl hn), if_neg hd, ext_lt l n 0 R h0 h, if_neg hz, hn]
theorem hex_ge (l : List UInt8) (kd : Int) (n : Nat) (hx : hexM l = (kd, n)) (h0 : 0 < n) : (digitsM isHexB (l.drop 2)).1 + 2 ≤ n := by
  unfold hexM at hx
  split at hx
  · have := (Prod.mk.inj hx).2; omega
  · split at hx
    · obtain ⟨h1, _⟩ := exp_gt _ _ _ (Prod.mk.inj hx).2 h0
      omega
    · split at hx
      · have := (Prod.mk.inj hx).2; omega
      · have := (Prod.mk.inj hx).2; omega
theorem hex_ext (l : List UInt8) (kd : Int) (n : Nat) (R : List UInt8) (hx : hexM l = (kd, n)) (h0 : 0 < n) (h : n ≤ l.length) : hexM (ext l n R) = (kd, n) := by
  have hg := hex_ge l kd n hx h0
  unfold hexM at hx ⊢
  rw [ext_drop l n 2 R (by omega) h, digits_ext isHexB rfl _ _ R (by omega) (by rw [List.length_drop]; omega)]
  by_cases hz : (digitsM isHexB (l.drop 2)).2.1 = 0
  · rw [if_pos hz] at hx ⊢; exact hx
  · rw [if_neg hz] at hx ⊢
    by_cases hp : byteAt l ((digitsM isHexB (l.drop 2)).1 + 2) = 112 ∨ byteAt l ((digitsM isHexB (l.drop 2)).1 + 2) = 80
    · rw [if_pos hp] at hx
      obtain ⟨rfl, hn⟩ := Prod.mk.inj hx
      obtain ⟨h1, _⟩ := exp_gt _ _ _ hn h0
      rw [ext_lt l n _ R (by omega) h, if_pos hp, exp_ext _ _ _ R hn h0 h]
    · rw [if_neg hp] at hx
      by_cases hd : (digitsM isHexB (l.drop 2)).2.2 = true
      · rw [if_pos hd] at hx
        have := (Prod.mk.inj hx).2; omega
      · rw [if_neg hd] at hx
        obtain ⟨rfl, hn⟩ := Prod.mk.inj hx
        rw [if_neg, if_neg hd, hn]
        rw [hn, ext_eq l n R h]
        decide
theorem whole_ext (p : Int → Bool) (hp : p 32 = false) (l : List UInt8) (n : Nat) (R : List UInt8) (hx : wholeM p l = n) (h0 : 0 < n) (h : n ≤ l.length) : 2 ≤ n ∧ wholeM p (ext l n R) = n := by
  unfold wholeM at hx ⊢
  by_cases hz : spanL p (l.drop 2) = 0
  · rw [if_pos hz] at hx; omega
  · rw [if_neg hz] at hx
    refine ⟨by omega, ?_⟩
    rw [ext_drop l n 2 R (by omega) h, span_ext p hp _ _ R (by omega) (by rw [List.length_drop]; omega), if_neg hz, hx]
theorem based_ext (l : List UInt8) (kd : Int) (n : Nat) (R : List UInt8) (hx : basedM l = (kd, n)) (h0 : 0 < n) (h : n ≤ l.length) : basedM (ext l n R) = (kd, n) := by
  have hlen : ¬ (ext l n R).length < 2 := by rw [ext_len l n R h]; omega
  unfold basedM at hx ⊢
  rw [ext_lt l n 0 R h0 h]
  by_cases hz : byteAt l 0 = 48
  · have hc : ¬ (byteAt l 0 ≠ 48 ∨ (ext l n R).length < 2) := fun h => h.elim (fun h => h hz) hlen
    rw [if_neg hc]
    by_cases hl : l.length < 2
    · rw [if_pos (.inr hl)] at hx
      have h1 : n = 1 := by omega
      have e : byteAt (ext l n R) 1 = 32 := by
        have := ext_eq l n R h
        rw [h1] at this ⊢
        exact this
      rw [e]
      exact decimal_ext l kd n R hx h0 h
    · rw [if_neg (fun h => h.elim (fun h => h hz) hl)] at hx
      by_cases b1 : byteAt l 1 = 120 ∨ byteAt l 1 = 88
      · rw [if_pos b1] at hx
        have := hex_ge l kd n hx h0
        rw [ext_lt l n 1 R (by omega) h, if_pos b1]
        exact hex_ext l kd n R hx h0 h
      · rw [if_neg b1] at hx
        by_cases b2 : byteAt l 1 = 111 ∨ byteAt l 1 = 79
        · rw [if_pos b2] at hx
          obtain ⟨rfl, hn⟩ := Prod.mk.inj hx
          obtain ⟨h2, hw⟩ := whole_ext isOctalB rfl l n R hn h0 h
          rw [ext_lt l n 1 R (by omega) h, if_neg b1, if_pos b2, hw]
        · rw [if_neg b2] at hx
          by_cases b3 : byteAt l 1 = 98 ∨ byteAt l 1 = 66
          · rw [if_pos b3] at hx
            obtain ⟨rfl, hn⟩ := Prod.mk.inj hx
            obtain ⟨h2, hw⟩ := whole_ext isBinaryB rfl l n R hn h0 h
            rw [ext_lt l n 1 R (by omega) h, if_neg b1, if_neg b2, if_pos b3, hw]
          · rw [if_neg b3] at hx
            have hd := decimal_ext l kd n R hx h0 h
            rcases ext_le l n 1 R (by omega) h with h1 | ⟨_, h1⟩
            · rw [h1, if_neg b1, if_neg b2, if_neg b3]
              exact hd
            · rw [h1]
              exact hd
  · rw [if_pos (.inl hz)] at hx ⊢
    exact decimal_ext l kd n R hx h0 h
theorem number_ext (l : List UInt8) (kd : Int) (n : Nat) (R : List UInt8) (hx : numberM l = (kd, n)) (h0 : 0 < n) (h : n ≤ l.length) : numberM (ext l n R) = (kd, n) := by
  unfold numberM at hx
  split at hx
  · have := (Prod.mk.inj hx).2; omega
  · have hb := based_ext l kd n R hx h0 h
    unfold numberM
    rw [hb, if_neg]
    simp only
    rw [ext_eq l n R h]
    decide
theorem number_dot (l : List UInt8) (kd : Int) (n : Nat) (hx : numberM l = (kd, n)) (h0 : 0 < n) (hd : byteAt l 0 = 46) (hg : isDigitB (byteAt l 1) = true) : 2 ≤ n := by
  unfold numberM at hx
  split at hx
  · have := (Prod.mk.inj hx).2; omega
  · unfold basedM at hx
    rw [if_pos (.inl (by rw [hd]; decide))] at hx
    cases l with
    | nil => unfold byteAt at hd; simp at hd
    | cons c l =>
      have hc : ((c.toNat : Nat) : Int) = 46 := hd
      have hs : spanL isDigitB (c :: l) = 0 := by
        unfold spanL
        rw [hc]
        rfl
      have h1 : 2 ≤ (digitsM isDigitB (c :: l)).1 := by
        unfold digitsM
        rw [hs, if_pos hd]
        simp only [Nat.zero_add, List.drop_succ_cons, List.drop_zero]
        cases l with
        | nil => unfold byteAt at hg; simp [isDigitB] at hg
        | cons e l =>
          have he : isDigitB ((e.toNat : Nat) : Int) = true := hg
          unfold spanL
          rw [if_pos he]
          omega
      unfold decimalM at hx
      split at hx
      · obtain ⟨h2, _⟩ := exp_gt _ _ _ (Prod.mk.inj hx).2 h0
        omega
      · split at hx
        · have := (Prod.mk.inj hx).2; omega
        · split at hx
          · have := (Prod.mk.inj hx).2; omega
          · have := (Prod.mk.inj hx).2; omega
theorem opB_no (x : List UInt8) (h : opB x = true) : (32 : UInt8) ∉ x := by
  unfold opB at h
  simp only [Bool.or_eq_true, beq_iff_eq] at h
  repeat' (refine Or.elim h ?_ ?_ <;> clear h <;> intro h)
  all_goals subst h; decide
theorem opGo_at (X : List UInt8) (n M : Nat) (hn : 0 < n) (hM : n ≤ M) (h1 : opB (X.take n) = true) (h2 : ∀ j, n < j → j ≤ M → opB (X.take j) = false) : opGo X M = n := by
  induction M with
  | zero => omega
  | succ M ih =>
    unfold opGo
    rcases Nat.lt_or_ge n (M + 1) with h | h
    · rw [h2 (M + 1) h (Nat.le_refl _)]
      simp only [Bool.false_eq_true, if_false]
      exact ih (by omega) (fun j a b => h2 j a (by omega))
    · obtain rfl : n = M + 1 := by omega
      rw [if_pos h1]
theorem opGo_yes (X : List UInt8) (n M : Nat) (h : opGo X M = n) (h0 : 0 < n) : opB (X.take n) = true ∧ n ≤ M := by
  induction M with
  | zero => unfold opGo at h; omega
  | succ M ih =>
    unfold opGo at h
    split at h
    · rename_i hc
      rw [← h]
      exact ⟨hc, Nat.le_refl _⟩
    · obtain ⟨a, b⟩ := ih h
      exact ⟨a, by omega⟩
theorem op_ext (l : List UInt8) (n : Nat) (R : List UInt8) (hx : opL l = n) (h0 : 0 < n) (h : n ≤ l.length) : opL (ext l n R) = n := by
  unfold opL at hx ⊢
  obtain ⟨h1, h2⟩ := opGo_yes _ _ _ hx h0
  refine opGo_at _ n _ h0 (by rw [ext_len l n R h]; omega) (by rw [ext_take l n n R (Nat.le_refl _) h]; exact h1) ?_
  intro j hj _
  rcases hb : opB ((ext l n R).take j) with _ | _
  · rfl
  · exfalso
    refine opB_no _ hb ?_
    unfold ext
    rw [List.take_append]
    apply List.mem_append_right
    rw [List.length_take, Nat.min_eq_left h]
    obtain ⟨d, hd⟩ : ∃ d, j - n = d + 1 := ⟨j - n - 1, by omega⟩
    rw [hd, List.take_succ_cons]
    exact List.mem_cons_self
theorem name_ext (l : List UInt8) (kd : Int) (n : Nat) (R : List UInt8) (hx : nameM l = (kd, n)) (h : n ≤ l.length) : nameM (ext l n R) = (kd, n) := by
  unfold nameM at hx ⊢
  have hn := (Prod.mk.inj hx).2
  rw [span_ext inNameB rfl l n R (by omega) h, ext_take l n _ R (by omega) h]
  exact hx
end Go.Proofs.YtfbacidpjpghiaaGreatDoor
