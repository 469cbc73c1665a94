/- scan: the second road's step is the first road's. -/
import Derived.Test.YtfbacidpjpghiaaGreatDoorVc
import Derived.Test.YtfbacidpjpghiaaGreatDoorVe
import Derived.Test.YtfbacidpjpghiaaGreatDoorUc
namespace Go.Proofs.YtfbacidpjpghiaaGreatDoor
open Go.RowKit
/-- A round of the second road: whether a line ends, how long the next thing is, its kind. -/
def stepR (l : List UInt8) (k : Nat) (ts : List Tok) (lf : Bool) (n : Nat) (kd : Int) : Prop :=
  (n = 0 ∧ ∃ x, stepM (l.drop k) k ts = some (false, k, x)) ∨ (0 < n ∧ k + n ≤ l.length ∧ stepM (l.drop k) k ts = some (true, k + n, if kd = 0 then (if lf = true then endL ts k else ts) else ts ++ [⟨kd, ba ((l.drop k).take n), k⟩]) ∧ (kd ≠ 0 → lf = false))
theorem r_line (l : List UInt8) (k : Nat) (ts : List Tok) (hk : k < l.length) (h : byteAt (l.drop k) 0 = 10) : stepR l k ts true 1 0 := by
  refine .inr ⟨by decide, by omega, ?_, fun h => absurd rfl h⟩
  unfold stepM
  rw [if_pos h, if_pos rfl, if_pos rfl]
theorem r_space (l : List UInt8) (k : Nat) (ts : List Tok) (hk : k < l.length) (h0 : byteAt (l.drop k) 0 ≠ 10) (h : isSpaceB (byteAt (l.drop k) 0) = true) : stepR l k ts false 1 0 := by
  refine .inr ⟨by decide, by omega, ?_, fun _ => rfl⟩
  unfold stepM
  rw [if_neg h0, if_pos h, if_pos rfl, if_neg (by decide)]
theorem r_slash (l : List UInt8) (k : Nat) (ts : List Tok) (hk : k < l.length) (h0 : byteAt (l.drop k) 0 = 47) (h1 : byteAt (l.drop k) 1 = 47) : stepR l k ts false (spanL notNl (l.drop k)) 0 := by
  have hp : Lib.hasPrefix (l.drop k) [47, 47] = true := by
    rw [prefix_two, h0, h1]
    rfl
  have hle := spanL_le notNl (l.drop k)
  rw [List.length_drop] at hle
  have hpos : 0 < spanL notNl (l.drop k) := by
    rw [drop_cons l k hk] at h0 ⊢
    have h0' : (((l.getD k 0).toNat : Nat) : Int) = 47 := h0
    unfold spanL
    rw [h0', if_pos (by decide)]
    omega
  refine .inr ⟨hpos, by omega, ?_, fun _ => rfl⟩
  unfold stepM
  rw [if_neg (by rw [h0]; decide), if_neg (by rw [h0]; decide), if_pos hp, line_span, if_pos rfl, if_neg (by decide)]
  simp
theorem r_star (l : List UInt8) (k : Nat) (ts : List Tok) (h0 : byteAt (l.drop k) 0 = 47) (h1 : byteAt (l.drop k) 1 = 42) : stepR l k ts (cmtF (cmtGo (l.drop (k + 2)) false)) (cmtN (cmtGo (l.drop (k + 2)) false)) 0 := by
  have hp1 : Lib.hasPrefix (l.drop k) [47, 47] = false := by
    rw [prefix_two, h0, h1]
    rfl
  have hp : Lib.hasPrefix (l.drop k) [47, 42] = true := by
    rw [prefix_two, h0, h1]
    rfl
  have hst : ∀ n, (commentM (l.drop k)).toNat = n → stepM (l.drop k) k ts = some (decide (n ≠ 0), k + n, if n = 0 then ts else commentT (l.drop k) n k ts) := by
    intro n hn
    unfold stepM
    rw [if_neg (by rw [h0]; decide), if_neg (by rw [h0]; decide), if_neg (by rw [hp1]; decide), if_pos hp, hn]
  have hdd : (l.drop k).drop 2 = l.drop (k + 2) := by rw [List.drop_drop]
  rcases cmt_index (l.drop (k + 2)) false with ⟨c1, c2⟩ | ⟨n, f', r, c1, c2, c3, c4⟩
  · rw [c1]
    refine .inl ⟨rfl, ts, ?_⟩
    rw [hst 0 (by unfold commentM; rw [hdd, c2]; rfl)]
    rfl
  · rw [c1]
    have hn : (commentM (l.drop k)).toNat = n + 4 := by
      unfold commentM
      rw [hdd, c2, if_neg (by omega)]
      omega
    have hlen : k + (n + 4) ≤ l.length := by
      have := congrArg List.length c3
      rw [List.length_drop, List.length_drop] at this
      simp at this
      omega
    refine .inr ⟨by show 0 < n + 4; omega, hlen, ?_, fun h => absurd rfl h⟩
    rw [hst _ hn]
    rw [decide_eq_true (by omega), if_neg (by omega), if_pos rfl]
    show some (true, k + (n + 4), _) = some (true, k + (n + 4), _)
    congr 3
    unfold commentT
    have hmem : (0 ≤ Lib.indexByte ((l.drop k).take (n + 4)) 10) ↔ f' = true := by
      rw [idx_mem, c4, Bool.false_or, decide_eq_true_iff]
      have hk2 : k + 1 < l.length := by omega
      have hL : (l.drop k).take (n + 4) = l.getD k 0 :: l.getD (k + 1) 0 :: ((l.drop (k + 2)).take n ++ [42, 47]) := by
        rw [drop_cons l k (by omega), drop_cons l (k + 1) hk2, List.take_succ_cons, List.take_succ_cons]
        congr 2
        rw [List.take_add, c3]
        rfl
      have b0 : l.getD k 0 = 47 := by
        have : byteAt (l.drop k) 0 = (((l.getD k 0).toNat : Nat) : Int) := by rw [byteAt_drop, Nat.add_zero, byteAt_get l k (by omega)]
        rw [this] at h0
        apply UInt8.toNat_inj.1
        show (l.getD k 0).toNat = 47
        omega
      have b1 : l.getD (k + 1) 0 = 42 := by
        have : byteAt (l.drop k) 1 = (((l.getD (k + 1) 0).toNat : Nat) : Int) := by rw [byteAt_drop, byteAt_get l (k + 1) hk2]
        rw [this] at h1
        apply UInt8.toNat_inj.1
        show (l.getD (k + 1) 0).toNat = 42
        omega
      rw [hL, b0, b1]
      simp
    by_cases hf : f' = true
    · rw [if_pos (hmem.2 hf)]
      show endL ts k = if f' = true then endL ts k else ts
      rw [if_pos hf]
    · rw [if_neg (fun h => hf (hmem.1 h))]
      show ts = if f' = true then endL ts k else ts
      rw [if_neg hf]
theorem r_tok (l : List UInt8) (k : Nat) (ts : List Tok) (hk : k < l.length) (g1 : byteAt (l.drop k) 0 ≠ 10) (g2 : isSpaceB (byteAt (l.drop k) 0) = false) (g3 : ¬ (byteAt (l.drop k) 0 = 47 ∧ (byteAt (l.drop k) 1 = 47 ∨ byteAt (l.drop k) 1 = 42))) (kd kd' : Int) (n : Nat) (hm : measureM (l.drop k) = some (kd', n)) (hkd : n ≠ 0 → kd = kd' ∧ kd ≠ 0) : stepR l k ts false n kd := by
  have p1 : Lib.hasPrefix (l.drop k) [47, 47] = false := by
    rw [prefix_two, Bool.and_eq_false_iff]
    by_cases h : byteAt (l.drop k) 0 = 47
    · exact .inr (decide_eq_false (fun h2 => g3 ⟨h, .inl h2⟩))
    · exact .inl (decide_eq_false h)
  have p2 : Lib.hasPrefix (l.drop k) [47, 42] = false := by
    rw [prefix_two, Bool.and_eq_false_iff]
    by_cases h : byteAt (l.drop k) 0 = 47
    · exact .inr (decide_eq_false (fun h2 => g3 ⟨h, .inr h2⟩))
    · exact .inl (decide_eq_false h)
  have hst : stepM (l.drop k) k ts = some (decide (n ≠ 0), k + n, if n = 0 then ts else ts ++ [⟨kd', ba ((l.drop k).take n), k⟩]) := by
    unfold stepM
    rw [if_neg g1, g2, p1, p2, hm]
    simp only [Bool.false_eq_true, if_false, Option.map_some]
  rcases Nat.eq_zero_or_pos n with h | h
  · subst h
    exact .inl ⟨rfl, _, by rw [hst]; rfl⟩
  · obtain ⟨rfl, h2⟩ := hkd (by omega)
    have hle := measure_le _ _ _ (by rw [List.length_drop]; omega) hm
    rw [List.length_drop] at hle
    refine .inr ⟨h, by omega, ?_, fun _ => rfl⟩
    rw [hst, decide_eq_true (by omega), if_neg (by omega), if_neg h2]
theorem number_kind (L : List UInt8) : (numberM L).1 = 2 ∨ (numberM L).1 = 3 := by
  have hd : ∀ L, (decimalM L).1 = 2 ∨ (decimalM L).1 = 3 := by
    intro L
    unfold decimalM
    split
    · exact .inr rfl
    · split
      · exact .inr rfl
      · split
        · exact .inl rfl
        · exact .inl rfl
  have hb : (basedM L).1 = 2 ∨ (basedM L).1 = 3 := by
    unfold basedM
    split
    · exact hd L
    · split
      · unfold hexM
        split
        · exact .inl rfl
        · split
          · exact .inr rfl
          · split
            · exact .inr rfl
            · exact .inl rfl
      · split
        · exact .inl rfl
        · split
          · exact .inl rfl
          · exact hd L
  unfold numberM
  split
  · exact hb
  · exact hb
theorem txt_str (l : List UInt8) (q : Int) (i f j : Nat) (acc : List UInt8) (hj : i + j ≤ l.length) (hf : l.length < f + (i + j)) : ∃ r out, txtGo l q i f (i + j) acc = some (r, out) ∧ strGo (l.drop i) q f j = some r := by
  induction f generalizing j acc with
  | zero => omega
  | succ f ih =>
    unfold txtGo strGo
    rw [byteAt_drop, List.drop_drop, List.length_drop]
    by_cases hlt : i + j < l.length
    · rw [if_pos hlt]
      by_cases hq : byteAt l (i + j) = q
      · rw [if_pos hq, if_neg (fun h => h.2 hq), if_neg (by omega)]
        exact ⟨_, _, rfl, by congr 1; omega⟩
      · rw [if_neg hq, if_pos ⟨by omega, hq⟩]
        obtain ⟨t, n, hp⟩ := pieceM_some (l.drop (i + j)) q
        have hle := piece_le _ q t n (by rw [List.length_drop]; omega) hp
        rw [List.length_drop] at hle
        rw [hp]
        cases n with
        | zero => exact ⟨0, [], rfl, rfl⟩
        | succ n =>
          obtain ⟨r, out, h1, h2⟩ := ih (j + (n + 1)) (acc ++ t) (by omega) (by omega)
          rw [← Nat.add_assoc i j (n + 1)] at h1
          exact ⟨r, out, h1, h2⟩
    · rw [if_neg hlt, if_neg (fun h => by omega), if_pos (by omega)]
      exact ⟨0, [], rfl, rfl⟩
theorem str_text (l : List UInt8) (k : Nat) (hk : k < l.length) (hq : byteAt (l.drop k) 0 = 34 ∨ byteAt (l.drop k) 0 = 96) : ∃ r out, txtGo l (byteAt (l.drop k) 0) k (l.length + 1) (k + 1) [] = some (r, out) ∧ measureM (l.drop k) = some (4, r) := by
  obtain ⟨r, out, h1, h2⟩ := txt_str l (byteAt (l.drop k) 0) k (l.length + 1) 1 [] (by omega) (by omega)
  refine ⟨r, out, h1, ?_⟩
  have hs : strM (l.drop k) = some r := by
    unfold strM
    rw [if_neg (by omega), List.length_drop]
    obtain ⟨r', h3⟩ : ∃ r', strGo (l.drop k) (byteAt (l.drop k) 0) (l.length - k + 1) 1 = some r' := by
      obtain ⟨r', _, _, h4, _⟩ := txt_go (l.drop k) (byteAt (l.drop k) 0) (l.length - k + 1) 1 [] (Nat.le_refl _) (by rw [List.length_drop]; omega) (by rw [List.length_drop]; omega)
      exact ⟨r', h4⟩
    have hmono : ∀ f g a r, strGo (l.drop k) (byteAt (l.drop k) 0) f a = some r → f ≤ g → strGo (l.drop k) (byteAt (l.drop k) 0) g a = some r := by
      intro f
      induction f with
      | zero => intro g a r h _; cases h
      | succ f ih =>
        intro g a r h hg
        obtain ⟨g, rfl⟩ : ∃ g', g = g' + 1 := ⟨g - 1, by omega⟩
        unfold strGo at h ⊢
        split
        · rename_i hc
          rw [if_pos hc] at h
          split at h
          · cases h
          · exact h
          · exact ih _ _ _ h (by omega)
        · rename_i hc
          rw [if_neg hc] at h
          exact h
    have h6 := hmono _ (l.length + 1) _ _ h3 (by omega)
    rw [h2] at h6
    rw [h3, ← h6]
  unfold measureM
  have hn : isLetterB (byteAt (l.drop k) 0) = false ∧ isDigitB (byteAt (l.drop k) 0) = false ∧ byteAt (l.drop k) 0 ≠ 46 := by
    rcases hq with h | h <;> rw [h] <;> decide
  rw [if_neg (by rw [hn.1]; decide), if_neg (fun h => h.elim (fun h => by rw [hn.2.1] at h; cases h) (fun h => hn.2.2 h.1)), if_pos hq, hs]
  rfl
end Go.Proofs.YtfbacidpjpghiaaGreatDoor
