/- scan: strings and all tokens by their own bytes; what is written is read again. -/
import Derived.Test.YtfbacidpjpghiaaGreatDoorUa
namespace Go.Proofs.YtfbacidpjpghiaaGreatDoor
open Go.RowKit
theorem decodeN_same (N M b0 b1 b2 b3 c1 c2 c3 v sz : Nat) (hd : Lib.decodeN N b0 b1 b2 b3 = (v, sz)) (h1 : 1 < sz → c1 = b1) (h2 : 2 < sz → c2 = b2) (h3 : 3 < sz → c3 = b3) (hr : sz ≤ M) (hb : ¬ (v = 65533 ∧ sz = 1)) : Lib.decodeN M b0 c1 c2 c3 = (v, sz) := by
  unfold Lib.decodeN at hd ⊢
  split at hd
  · rename_i c0
    rw [if_pos c0]
    exact hd
  · rename_i c0
    rw [if_neg c0]
    split at hd
    · rename_i s2
      split at hd
      · rename_i g
        obtain ⟨rfl, rfl⟩ := Prod.mk.inj hd
        obtain rfl := h1 (by decide)
        rw [if_pos (show b0 / 32 = 6 ∧ (1 < M ∧ c1 / 64 = 2) from ⟨s2.1, by omega, s2.2.2⟩), if_pos g]
      · obtain ⟨rfl, rfl⟩ := Prod.mk.inj hd
        exact absurd ⟨rfl, rfl⟩ hb
    · rename_i s2
      split at hd
      · rename_i s3
        split at hd
        · rename_i g
          obtain ⟨rfl, rfl⟩ := Prod.mk.inj hd
          obtain rfl := h1 (by decide)
          obtain rfl := h2 (by decide)
          rw [if_neg (by omega), if_pos (show b0 / 16 = 14 ∧ (1 < M ∧ c1 / 64 = 2) ∧ (2 < M ∧ c2 / 64 = 2) from ⟨s3.1, ⟨by omega, s3.2.1.2⟩, by omega, s3.2.2.2⟩), if_pos g]
        · obtain ⟨rfl, rfl⟩ := Prod.mk.inj hd
          exact absurd ⟨rfl, rfl⟩ hb
      · rename_i s3
        split at hd
        · rename_i s4
          split at hd
          · rename_i g
            obtain ⟨rfl, rfl⟩ := Prod.mk.inj hd
            obtain rfl := h1 (by decide)
            obtain rfl := h2 (by decide)
            obtain rfl := h3 (by decide)
            rw [if_neg (by omega), if_neg (by omega), if_pos (show b0 / 8 = 30 ∧ (1 < M ∧ c1 / 64 = 2) ∧ (2 < M ∧ c2 / 64 = 2) ∧ (3 < M ∧ c3 / 64 = 2) from ⟨s4.1, ⟨by omega, s4.2.1.2⟩, ⟨by omega, s4.2.2.1.2⟩, by omega, s4.2.2.2.2⟩), if_pos g]
          · obtain ⟨rfl, rfl⟩ := Prod.mk.inj hd
            exact absurd ⟨rfl, rfl⟩ hb
        · obtain ⟨rfl, rfl⟩ := Prod.mk.inj hd
          exact absurd ⟨rfl, rfl⟩ hb
theorem byteAt_opt (l : List UInt8) (i : Nat) : byteAt l i = (match l[i]? with | none => -1 | some c => (c.toNat : Int)) := by
  have h : l[i]? = (l.drop i)[0]? := by simp
  unfold byteAt
  rw [h]
  cases l.drop i <;> rfl
/-- The first m bytes are the same. -/
def SameTo (A B : List UInt8) (m : Nat) : Prop := ∀ i, i < m → B[i]? = A[i]?
theorem SameTo.byte {A B : List UInt8} {m : Nat} (h : SameTo A B m) (i : Nat) (hi : i < m) : byteAt B i = byteAt A i := by
  rw [byteAt_opt, byteAt_opt, h i hi]
theorem SameTo.take {A B : List UInt8} {m : Nat} (h : SameTo A B m) (k : Nat) (hk : k ≤ m) : B.take k = A.take k := by
  apply List.ext_getElem?
  intro i
  rcases Nat.lt_or_ge i k with h1 | h1
  · rw [List.getElem?_take_of_lt h1, List.getElem?_take_of_lt h1, h i (by omega)]
  · rw [List.getElem?_take_eq_none h1, List.getElem?_take_eq_none h1]
theorem SameTo.len {A B : List UInt8} {m : Nat} (h : SameTo A B m) (hA : m ≤ A.length) : m ≤ B.length := by
  rcases Nat.eq_zero_or_pos m with h0 | h0
  · omega
  · have h1 := h (m - 1) (by omega)
    rw [List.getElem?_eq_getElem (show m - 1 < A.length by omega)] at h1
    have := (List.getElem?_eq_some_iff.1 h1).1
    omega
theorem SameTo.drop {A B : List UInt8} {m : Nat} (h : SameTo A B m) (k j : Nat) (hj : k + j ≤ m) : SameTo (A.drop k) (B.drop k) j := by
  intro i hi
  rw [List.getElem?_drop, List.getElem?_drop]
  exact h (k + i) (by omega)
theorem SameTo.mono {A B : List UInt8} {m : Nat} (h : SameTo A B m) (j : Nat) (hj : j ≤ m) : SameTo A B j := fun i hi => h i (by omega)
theorem hexAt_same {A B : List UInt8} {m : Nat} (h : SameTo A B m) (n : Nat) (hn : n ≤ m) (hA : m ≤ A.length) : hexAt B n = hexAt A n := by
  have := h.len hA
  unfold hexAt
  rw [if_neg (by omega), if_neg (by omega), h.take n hn]
theorem piece_local (A B : List UInt8) (q : Int) (t : List UInt8) (k : Nat) (hA : 0 < A.length) (hp : pieceM A q = some (t, k + 1)) (hs : SameTo A B (k + 1)) : pieceM B q = some (t, k + 1) := by
  have hle := piece_le A q t (k + 1) hA hp
  have hBl := hs.len hle
  unfold pieceM at hp ⊢
  rw [hs.byte 0 (by omega)]
  by_cases a1 : q = 96 ∧ byteAt A 0 = 13
  · rw [if_pos a1] at hp ⊢
    exact hp
  · rw [if_neg a1] at hp ⊢
    by_cases a2 : q = 34 ∧ byteAt A 0 = 10
    · rw [if_pos a2] at hp ⊢
      exact hp
    · rw [if_neg a2] at hp ⊢
      by_cases a3 : q = 34 ∧ byteAt A 0 = 92
      · rw [if_pos a3] at hp ⊢
        unfold escM at hp ⊢
        by_cases e0 : A.length < 2
        · rw [if_pos e0] at hp
          cases hp
        · rw [if_neg e0] at hp
          have h2 : 1 ≤ k := by
            split at hp
            · cases hp; omega
            · split at hp
              · cases hp; omega
              · split at hp
                · cases hp; omega
                · split at hp
                  · unfold byteM at hp
                    split at hp
                    · cases hp
                    · cases hp; omega
                  · split at hp
                    · unfold pointM at hp
                      split at hp
                      · cases hp
                      · split at hp
                        · cases hp; omega
                        · cases hp
                    · cases hp
          rw [if_neg (by omega), hs.byte 1 (by omega), hs.take 2 (by omega)]
          by_cases b1 : byteAt A 1 = 92 ∨ byteAt A 1 = 34
          · rw [if_pos b1] at hp ⊢; exact hp
          · rw [if_neg b1] at hp ⊢
            by_cases b2 : byteAt A 1 = 110
            · rw [if_pos b2] at hp ⊢; exact hp
            · rw [if_neg b2] at hp ⊢
              by_cases b3 : byteAt A 1 = 116
              · rw [if_pos b3] at hp ⊢; exact hp
              · rw [if_neg b3] at hp ⊢
                by_cases b4 : byteAt A 1 = 120
                · rw [if_pos b4] at hp ⊢
                  unfold byteM at hp ⊢
                  have h4 : 4 ≤ k + 1 := by
                    split at hp
                    · cases hp
                    · cases hp; omega
                  rw [hexAt_same hs 4 h4 hle]
                  exact hp
                · rw [if_neg b4] at hp ⊢
                  by_cases b5 : byteAt A 1 = 117
                  · rw [if_pos b5] at hp ⊢
                    unfold pointM at hp ⊢
                    have h6 : 6 ≤ k + 1 := by
                      split at hp
                      · cases hp
                      · split at hp
                        · cases hp; omega
                        · cases hp
                    rw [hexAt_same hs 6 h6 hle]
                    exact hp
                  · rw [if_neg b5] at hp
                    cases hp
      · rw [if_neg a3] at hp ⊢
        by_cases a4 : (runeL A).1 = 65533 ∧ (runeL A).2 = 1
        · rw [if_pos a4] at hp
          cases hp
        · rw [if_neg a4] at hp
          obtain ⟨ht, hn2⟩ := Prod.mk.inj (Option.some.inj hp)
          have hr : runeL B = runeL A := by
            have hd : Lib.decodeN A.length (A[0]?.getD 0).toNat (A[1]?.getD 0).toNat (A[2]?.getD 0).toNat (A[3]?.getD 0).toNat = ((runeL A).1, (runeL A).2) := rfl
            have := decodeN_same _ B.length _ _ _ _ (B[1]?.getD 0).toNat (B[2]?.getD 0).toNat (B[3]?.getD 0).toNat _ _ hd (fun h => by rw [hs 1 (by omega)]) (fun h => by rw [hs 2 (by omega)]) (fun h => by rw [hs 3 (by omega)]) (by omega) a4
            rw [← hs 0 (by omega)] at this
            exact this
          rw [hr, if_neg a4, hs.take _ (by omega)]
          exact hp
theorem strGo_gt (l : List UInt8) (q : Int) (f a r : Nat) (h : strGo l q f a = some r) (h0 : 0 < r) : a < r := by
  induction f generalizing a with
  | zero => cases h
  | succ f ih =>
    unfold strGo at h
    split at h
    · split at h
      · cases h
      · cases h; omega
      · have := ih _ h; omega
    · split at h
      · cases h; omega
      · cases h; omega
theorem strGo_local (l B : List UInt8) (q : Int) (r : Nat) (hs : SameTo l B r) (hr : r ≤ l.length) (h0 : 0 < r) (f a : Nat) (h : strGo l q f a = some r) (F : Nat) (hF : r ≤ F + a) : strGo B q F a = some r := by
  have hB := hs.len hr
  induction f generalizing a F with
  | zero => cases h
  | succ f ih =>
    have ha := strGo_gt l q (f + 1) a r h h0
    obtain ⟨F, rfl⟩ : ∃ F', F = F' + 1 := ⟨F - 1, by omega⟩
    unfold strGo at h ⊢
    rw [hs.byte a ha]
    by_cases hc : a < l.length ∧ byteAt l a ≠ q
    · rw [if_pos hc] at h
      rw [if_pos ⟨by omega, hc.2⟩]
      cases hp : pieceM (l.drop a) q with
      | none => rw [hp] at h; cases h
      | some tn =>
        obtain ⟨t, n⟩ := tn
        rw [hp] at h
        cases n with
        | zero => cases h; omega
        | succ n =>
          simp only at h
          have hg := strGo_gt l q f _ r h h0
          rw [piece_local (l.drop a) (B.drop a) q t n (by rw [List.length_drop]; omega) hp (hs.drop a (n + 1) (by omega))]
          exact ih _ h F (by omega)
    · rw [if_neg hc] at h
      by_cases hl : a = l.length
      · omega
      · rw [if_neg hl] at h
        rw [if_neg (fun h2 => hc ⟨by omega, h2.2⟩), if_neg (by omega)]
        exact h
theorem ext_same (l : List UInt8) (n : Nat) (R : List UInt8) (h : n ≤ l.length) : SameTo l (ext l n R) n := by
  intro i hi
  unfold ext
  rw [List.getElem?_append_left (by rw [List.length_take]; omega), List.getElem?_take_of_lt hi]
theorem str_ext (l : List UInt8) (n : Nat) (R : List UInt8) (hx : strM l = some n) (h0 : 0 < n) (h : n ≤ l.length) : strM (ext l n R) = some n := by
  unfold strM at hx ⊢
  rw [ext_lt l n 0 R h0 h]
  split at hx
  · cases hx; omega
  · rename_i hc
    rw [if_neg hc]
    exact strGo_local l _ _ n (ext_same l n R h) h h0 _ 1 hx _ (by rw [ext_len l n R h]; omega)
theorem measure_ext (l : List UInt8) (kd : Int) (n : Nat) (R : List UInt8) (hx : measureM l = some (kd, n)) (h0 : 0 < n) (h : n ≤ l.length) : measureM (ext l n R) = some (kd, n) := by
  unfold measureM at hx ⊢
  rw [ext_lt l n 0 R h0 h]
  by_cases a1 : isLetterB (byteAt l 0) = true
  · rw [if_pos a1] at hx ⊢
    exact congrArg some (name_ext l kd n R (Option.some.inj hx) h)
  · rw [if_neg a1] at hx ⊢
    by_cases a2 : isDigitB (byteAt l 0) = true ∨ (byteAt l 0 = 46 ∧ 1 < l.length ∧ isDigitB (byteAt l 1) = true)
    · rw [if_pos a2] at hx
      have hnum := Option.some.inj hx
      have hc : isDigitB (byteAt l 0) = true ∨ (byteAt l 0 = 46 ∧ 1 < (ext l n R).length ∧ isDigitB (byteAt (ext l n R) 1) = true) := by
        rcases a2 with a2 | ⟨b1, b2, b3⟩
        · exact .inl a2
        · have h2 := number_dot l kd n hnum h0 b1 b3
          exact .inr ⟨b1, by rw [ext_len l n R h]; omega, by rw [ext_lt l n 1 R (by omega) h]; exact b3⟩
      rw [if_pos hc]
      exact congrArg some (number_ext l kd n R hnum h0 h)
    · rw [if_neg a2] at hx
      have hc : ¬ (isDigitB (byteAt l 0) = true ∨ (byteAt l 0 = 46 ∧ 1 < (ext l n R).length ∧ isDigitB (byteAt (ext l n R) 1) = true)) := by
        rintro (h1 | ⟨b1, b2, b3⟩)
        · exact a2 (.inl h1)
        · rcases ext_le l n 1 R (by omega) h with e | ⟨e1, e⟩
          · rw [e] at b3
            rcases Nat.lt_or_ge 1 l.length with h3 | h3
            · exact a2 (.inr ⟨b1, h3, b3⟩)
            · have : byteAt l 1 = -1 := by unfold byteAt; rw [List.drop_eq_nil_of_le h3]
              rw [this] at b3
              exact absurd b3 (by decide)
          · rw [e] at b3
            exact absurd b3 (by decide)
      rw [if_neg hc]
      by_cases a3 : byteAt l 0 = 34 ∨ byteAt l 0 = 96
      · rw [if_pos a3] at hx ⊢
        obtain ⟨m, hm, he⟩ := Option.map_eq_some_iff.1 hx
        obtain ⟨rfl, rfl⟩ := Prod.mk.inj he
        rw [str_ext l m R hm h0 h]
        rfl
      · rw [if_neg a3] at hx ⊢
        by_cases a4 : byteAt l 0 = 59
        · rw [if_pos a4] at hx ⊢
          exact hx
        · rw [if_neg a4] at hx ⊢
          obtain ⟨rfl, hn⟩ := Prod.mk.inj (Option.some.inj hx)
          rw [op_ext l n R hn h0 h]
theorem measure_le (l : List UInt8) (kd : Int) (n : Nat) (hl : 0 < l.length) (h : measureM l = some (kd, n)) : n ≤ l.length := by
  have hs : (ba l).toList = l := ba_toList l
  have := measureM_le (ba l) (by rw [ba_size']; exact hl) (k := kd) (n := n) (by rw [hs]; exact h)
  rw [ba_size'] at this
  exact this
theorem prefix_two (a b : UInt8) (l : List UInt8) : Lib.hasPrefix l [a, b] = (decide (byteAt l 0 = (a.toNat : Int)) && decide (byteAt l 1 = (b.toNat : Int))) := by
  have hu : ∀ x y : UInt8, (x == y) = decide (((y.toNat : Nat) : Int) = (x.toNat : Int)) := by
    intro x y
    by_cases h : x = y
    · subst h; simp
    · have : ¬ (((y.toNat : Nat) : Int) = (x.toNat : Int)) := fun h2 => h (UInt8.toNat_inj.1 (Int.ofNat.inj h2)).symm
      rw [decide_eq_false this]
      simpa using h
  unfold Lib.hasPrefix byteAt
  match l with
  | [] => rfl
  | [c] =>
    simp only [List.isPrefixOf, Bool.and_false, List.drop_succ_cons, List.drop_nil]
    rw [decide_eq_false (show ¬ ((-1 : Int) = (b.toNat : Int)) by omega), Bool.and_false]
  | c :: d :: l =>
    simp only [List.isPrefixOf, Bool.and_true, List.drop_succ_cons, List.drop_zero]
    rw [hu a c, hu b d]
/-- A token that was read. -/
def Good (t : Tok) : Prop := ∃ (l : List UInt8) (n : Nat), measureM l = some (t.kind, n) ∧ 0 < n ∧ n ≤ l.length ∧ t.text = ba (l.take n) ∧ byteAt l 0 ≠ 10 ∧ isSpaceB (byteAt l 0) = false ∧ Lib.hasPrefix l [47, 47] = false ∧ Lib.hasPrefix l [47, 42] = false
theorem prefix_ext (b : UInt8) (hb : b ≠ 32) (l : List UInt8) (n : Nat) (R : List UInt8) (h0 : 0 < n) (h : n ≤ l.length) (hx : Lib.hasPrefix l [47, b] = false) : Lib.hasPrefix (ext l n R) [47, b] = false := by
  rw [prefix_two] at hx ⊢
  rw [ext_lt l n 0 R h0 h]
  rcases ext_le l n 1 R (by omega) h with e | ⟨_, e⟩
  · rw [e]; exact hx
  · have hne : ¬ ((32 : Int) = (b.toNat : Int)) := by
      intro h2
      refine hb (UInt8.toNat_inj.1 ?_)
      show b.toNat = 32
      omega
    rw [e, decide_eq_false hne, Bool.and_false]
theorem step_good (l : List UInt8) (kd : Int) (n : Nat) (R : List UInt8) (pos : Nat) (ts : List Tok) (hx : measureM l = some (kd, n)) (h0 : 0 < n) (h : n ≤ l.length) (g1 : byteAt l 0 ≠ 10) (g2 : isSpaceB (byteAt l 0) = false) (g3 : Lib.hasPrefix l [47, 47] = false) (g4 : Lib.hasPrefix l [47, 42] = false) : stepM (ext l n R) pos ts = some (true, pos + n, ts ++ [⟨kd, ba (l.take n), pos⟩]) := by
  unfold stepM
  rw [ext_lt l n 0 R h0 h, if_neg g1, g2, prefix_ext 47 (by decide) l n R h0 h g3, prefix_ext 42 (by decide) l n R h0 h g4, measure_ext l kd n R hx h0 h]
  simp only [Bool.false_eq_true, if_false, Option.map_some]
  rw [ext_take l n n R (Nat.le_refl _) h, if_neg (by omega), decide_eq_true (by omega)]
end Go.Proofs.YtfbacidpjpghiaaGreatDoor
