/- scan, the second road: numbers. -/
import Derived.Test.YtfbacidpjpghiaaGreatDoorVa
import Derived.Test.YtfbacidpjpghiaaGreatDoorUa
import Derived.Deep.CutBlock
namespace Go.Proofs.YtfbacidpjpghiaaGreatDoor
open Go.RowKit
attribute [local go_sem ↓] Go.wp_at_zero Go.wp_at_succ
theorem expR_cases (L : List UInt8) (M : Nat) (s g : Int) : (expR L M s g = 0 ∧ ¬ (byteAt L M = s ∨ byteAt L M = g)) ∨ (expR L M s g = -1 ∧ (byteAt L M = s ∨ byteAt L M = g) ∧ expM L M = 0) ∨ (∃ q : Nat, 0 < q ∧ expR L M s g = q ∧ (byteAt L M = s ∨ byteAt L M = g) ∧ expM L M = M + q) := by
  unfold expR
  by_cases h : byteAt L M ≠ s ∧ byteAt L M ≠ g
  · rw [if_pos h]
    exact .inl ⟨rfl, fun h2 => h2.elim h.1 h.2⟩
  · rw [if_neg h]
    have hor : byteAt L M = s ∨ byteAt L M = g := by
      rcases Int.decEq (byteAt L M) s with h1 | h1
      · rcases Int.decEq (byteAt L M) g with h2 | h2
        · exact absurd ⟨h1, h2⟩ h
        · exact .inr h2
      · exact .inl h1
    by_cases he : expM L M = 0
    · rw [if_pos he]
      exact .inr (.inl ⟨rfl, hor, he⟩)
    · rw [if_neg he]
      obtain ⟨h1, _⟩ := exp_gt L M _ rfl (by omega)
      exact .inr (.inr ⟨expM L M - M, by omega, rfl, hor, by omega⟩)
theorem exponent_at (w : World) (ad : Addr) (cap i P : Nat) (l : List UInt8) (hB : BytesAt w ad l) (hiP : i ≤ P) (hP : P ≤ l.length) (hl : l.length < 1000000) (s g : Nat) (hs0 : 0 < s) (hg0 : 0 < g) (hsg : s ≠ g) : Calls Tryz.prog 44 #[.slice (some ad) l.length cap, .int .i64 (P : Int), .int .u8 s, .int .u8 g] w fun e w' => e = .returned (.int .i64 (expR (l.drop i) (P - i) s g)) ∧ w' = w := by
  have := exponent_any w ad cap i (P - i) l hB (by omega) hl s g hs0 hg0 hsg
  rw [show i + (P - i) = P by omega] at this
  exact this
theorem len_two (L : List UInt8) (h : byteAt L 1 ≠ -1) : ¬ L.length < 2 := by
  intro h2
  apply h
  unfold byteAt
  rw [List.drop_eq_nil_of_le (by omega)]
theorem based_hex (L : List UInt8) (h0 : byteAt L 0 = 48) (h1 : byteAt L 1 = 120 ∨ byteAt L 1 = 88) : basedM L = hexM L := by
  have := len_two L (by omega)
  unfold basedM
  rw [if_neg (fun h => h.elim (fun h => h h0) this), if_pos h1]
theorem based_oct (L : List UInt8) (h0 : byteAt L 0 = 48) (h1 : byteAt L 1 = 111 ∨ byteAt L 1 = 79) : basedM L = (2, wholeM isOctalB L) := by
  have := len_two L (by omega)
  unfold basedM
  rw [if_neg (fun h => h.elim (fun h => h h0) this), if_neg (by omega), if_pos h1]
theorem based_bin (L : List UInt8) (h0 : byteAt L 0 = 48) (h1 : byteAt L 1 = 98 ∨ byteAt L 1 = 66) : basedM L = (2, wholeM isBinaryB L) := by
  have := len_two L (by omega)
  unfold basedM
  rw [if_neg (fun h => h.elim (fun h => h h0) this), if_neg (by omega), if_neg (by omega), if_pos h1]
theorem based_dec (L : List UInt8) (h : byteAt L 0 ≠ 48 ∨ ¬ (byteAt L 1 = 120 ∨ byteAt L 1 = 88 ∨ byteAt L 1 = 111 ∨ byteAt L 1 = 79 ∨ byteAt L 1 = 98 ∨ byteAt L 1 = 66)) : basedM L = decimalM L := by
  unfold basedM
  rcases h with h | h
  · rw [if_pos (.inl h)]
  · split
    · rfl
    · rw [if_neg (by omega), if_neg (by omega), if_neg (by omega)]
theorem hex_dot (L : List UInt8) (n m M : Nat) (hn : spanL isHexB (L.drop 2) = n) (hd : byteAt (L.drop 2) n = 46) (hm : spanL isHexB ((L.drop 2).drop (n + 1)) = m) (hM : M = n + 1 + m + 2) : hexM L = if n + m = 0 then (2, 0) else if byteAt L M = 112 ∨ byteAt L M = 80 then (3, expM L M) else (3, 0) := by
  have hD : digitsM isHexB (L.drop 2) = (n + 1 + m, n + m, true) := by
    unfold digitsM
    rw [hn, if_pos hd, hm]
  unfold hexM
  rw [hD, hM]
  simp only [if_true]
theorem hex_nodot (L : List UInt8) (n M : Nat) (hn : spanL isHexB (L.drop 2) = n) (hd : byteAt (L.drop 2) n ≠ 46) (hM : M = n + 2) : hexM L = if n = 0 then (2, 0) else if byteAt L M = 112 ∨ byteAt L M = 80 then (3, expM L M) else (2, M) := by
  have hD : digitsM isHexB (L.drop 2) = (n, n, false) := by
    unfold digitsM
    rw [hn, if_neg hd]
  unfold hexM
  rw [hD, hM]
  simp only [Bool.false_eq_true, if_false]
theorem dec_dot (L : List UInt8) (n m M : Nat) (hn : spanL isDigitB L = n) (hd : byteAt L n = 46) (hm : spanL isDigitB (L.drop (n + 1)) = m) (hM : M = n + 1 + m) : decimalM L = if byteAt L M = 101 ∨ byteAt L M = 69 then (3, expM L M) else (3, M) := by
  have hD : digitsM isDigitB L = (n + 1 + m, n + m, true) := by
    unfold digitsM
    rw [hn, if_pos hd, hm]
  unfold decimalM
  rw [hD, hM]
  simp only [if_true]
theorem dec_nodot (L : List UInt8) (n : Nat) (hn : spanL isDigitB L = n) (hd : byteAt L n ≠ 46) : decimalM L = if byteAt L n = 101 ∨ byteAt L n = 69 then (3, expM L n) else if 1 < n ∧ byteAt L 0 = 48 then (2, 0) else (2, n) := by
  have hD : digitsM isDigitB L = (n, n, false) := by
    unfold digitsM
    rw [hn, if_neg hd]
  unfold decimalM
  rw [hD]
  simp only [Bool.false_eq_true, if_false]
theorem number_zero (L : List UInt8) (h : (basedM L).2 = 0) : (numberM L).2 = 0 := by
  unfold numberM
  split
  · rfl
  · exact h
set_option maxRecDepth 100000 in
set_option maxHeartbeats 32000000 in
theorem number_any (w : World) (ad : Addr) (cap i : Nat) (l : List UInt8) (hB : BytesAt w ad l) (hi : i < l.length) (hl : l.length < 1000000) : Calls Tryz.prog 29 #[.slice (some ad) l.length cap, .int .i64 i] w fun e w' => ∃ K : Int, e = .returned (.tuple #[.int .i64 K, .int .i64 ((numberM (l.drop i)).2 : Nat)]) ∧ ((numberM (l.drop i)).2 ≠ 0 → K = (numberM (l.drop i)).1) ∧ w' = w := by
  obtain ⟨NR, hNR⟩ : ∃ NR, NR = (numberM (l.drop i)).2 := ⟨_, rfl⟩
  obtain ⟨NK, hNK⟩ : ∃ NK, NK = (numberM (l.drop i)).1 := ⟨_, rfl⟩
  rw [← hNR, ← hNK]
  obtain ⟨L, hL⟩ : ∃ L, L = l.drop i := ⟨_, rfl⟩
  rw [← hL] at hNR hNK
  obtain ⟨Y1, hY1⟩ : ∃ Y1, Y1 = (basedM L).1 := ⟨_, rfl⟩
  obtain ⟨Y2, hY2⟩ : ∃ Y2, Y2 = (basedM L).2 := ⟨_, rfl⟩
  have hY : Hid (basedM L = (Y1, Y2)) := by show _ = _; rw [hY1, hY2]
  have hz : Hid (Y2 = 0 → NR = 0) := fun h => by rw [hNR]; exact number_zero L (by rw [← hY2]; exact h)
  have hnum : Hid ((NK, NR) = if inNameB (byteAt L Y2) = true ∨ byteAt L Y2 = 46 then (Y1, 0) else (Y1, Y2)) := by
    show _ = _
    have h1 : (NK, NR) = numberM L := by rw [hNR, hNK]
    rw [h1]
    unfold numberM
    rw [← hY1, ← hY2]
    split
    · rfl
    · rw [hY.out]
  clear hNR hNK hY1 hY2
  have hYl : Hid (Y2 ≤ l.length) := by
    have := basedM_le (ba L)
    rw [ba_toList, hY.out, ba_size', hL, List.length_drop] at this
    show Y2 ≤ l.length
    simp only at this
    omega
  obtain ⟨IY, hIY⟩ : ∃ IY, IY = i + Y2 := ⟨_, rfl⟩
  replace hIY : Hid _ := hIY
  replace hL : Hid _ := hL
  have hc0 := hB i hi
  have ka1 : Hid _ := at_any w ad cap (i + 1) l hB (by omega) (by omega)
  have hC0 : Hid (byteAt L 0 = (((l.getD i 0).toNat : Nat) : Int)) := by show _ = _; rw [hL.out, byteAt_drop, Nat.add_zero, byteAt_get l i hi]
  have hC1 : Hid ((((l.getD (i + 1) 0).toNat : Nat) : Int) = byteAt L 1 ∨ (byteAt L 1 = -1 ∧ (l.getD (i + 1) 0).toNat = 0)) := by
    have := atv l (i + 1)
    show _ ∨ _
    rw [hL.out, byteAt_drop]
    exact this
  generalize (l.getD i 0).toNat = C0 at *
  generalize (l.getD (i + 1) 0).toNat = C1 at *
  have hw1 : IntKind.i64.wrap ((i : Int) + 1) = ((i + 1 : Nat) : Int) := by rw [IntKind.wrap_i64]; omega
  replace hB : Hid _ := hB
  go_enter Tryz.func29, Tryz.ntmps29
  go_wp2_with fail
  refine Calls.mono ka1.out ?_
  rintro e w2 ⟨rfl, rfl⟩
  clear ka1 hw1
  go_upto_block 0 with fail
  go_cut [6, 7] from 9 to 158 (fun vk vn wc => vk = .int .i64 Y1 ∧ vn = .int .i64 IY ∧ wc = w2)
  case rest =>
    obtain ⟨rfl, rfl, rfl⟩ := hcut
    have hYle : Y2 ≤ L.length := by
      have := basedM_le (ba L)
      rw [ba_toList, hY.out, ba_size'] at this
      exact this
    have hLl : L.length = l.length - i := by rw [hL.out, List.length_drop]
    have hIl : IY ≤ l.length := by have := hIY.out; omega
    have kat : Hid _ := at_any wc ad cap IY l hB.out (by omega) (by omega)
    have hv := atv l IY
    have hbv : byteAt L Y2 = byteAt l IY := by rw [hL.out, byteAt_drop, hIY.out]
    have hn := hnum.out
    rw [hbv] at hn
    generalize (l.getD IY 0).toNat = AT at *
    have klt : Hid _ := letter_any AT wc
    have kdg : Hid _ := digit_any AT wc
    have hin : isLetterB (AT : Int) = true ∨ isDigitB (AT : Int) = true ∨ AT = 46 ↔ inNameB (byteAt l IY) = true ∨ byteAt l IY = 46 := by
      unfold inNameB
      rw [Bool.or_eq_true]
      rcases hv with h | ⟨h1, h2⟩
      · rw [h]
        have : AT = 46 ↔ byteAt l IY = 46 := by omega
        rw [this]
        exact or_assoc.symm
      · rw [h1, h2]
        decide
    clear hv hbv hYle hLl hnum hB hz hY
    by_cases c1 : isLetterB (AT : Int) = true
    · rw [c1] at klt
      rw [if_pos (hin.1 (.inl c1))] at hn
      obtain rfl : NR = 0 := (Prod.mk.inj hn).2
      clear hn hin c1
      go_wp2_with fail
      refine Calls.mono kat.out ?_
      rintro e w2 ⟨rfl, rfl⟩
      go_wp2_with fail
      refine Calls.mono klt.out ?_
      rintro e w2 ⟨rfl, rfl⟩
      go_wp2
      exact bodyPost_ret (v := .tuple #[.int .i64 0, .int .i64 0]) (by simp [results, Tryz.results29, go_sem]) rfl ⟨0, rfl, fun h => absurd rfl h, rfl⟩
    · by_cases c2 : isDigitB (AT : Int) = true
      · rw [show isLetterB (AT : Int) = false by simpa using c1] at klt
        rw [c2] at kdg
        rw [if_pos (hin.1 (.inr (.inl c2)))] at hn
        obtain rfl : NR = 0 := (Prod.mk.inj hn).2
        clear hn hin c1 c2
        go_wp2_with fail
        refine Calls.mono kat.out ?_
        rintro e w2 ⟨rfl, rfl⟩
        go_wp2_with fail
        refine Calls.mono klt.out ?_
        rintro e w2 ⟨rfl, rfl⟩
        go_wp2_with fail
        refine Calls.mono kat.out ?_
        rintro e w2 ⟨rfl, rfl⟩
        go_wp2_with fail
        refine Calls.mono kdg.out ?_
        rintro e w2 ⟨rfl, rfl⟩
        go_wp2
        exact bodyPost_ret (v := .tuple #[.int .i64 0, .int .i64 0]) (by simp [results, Tryz.results29, go_sem]) rfl ⟨0, rfl, fun h => absurd rfl h, rfl⟩
      · by_cases c3 : AT = 46
        · rw [show isLetterB (AT : Int) = false by simpa using c1] at klt
          rw [show isDigitB (AT : Int) = false by simpa using c2] at kdg
          have e46 : ((AT : Int) == 46) = true := by rw [beq_iff_eq]; omega
          rw [if_pos (hin.1 (.inr (.inr c3)))] at hn
          obtain rfl : NR = 0 := (Prod.mk.inj hn).2
          clear hn hin c1 c2 c3
          go_wp2_with fail
          refine Calls.mono kat.out ?_
          rintro e w2 ⟨rfl, rfl⟩
          go_wp2_with fail
          refine Calls.mono klt.out ?_
          rintro e w2 ⟨rfl, rfl⟩
          go_wp2_with fail
          refine Calls.mono kat.out ?_
          rintro e w2 ⟨rfl, rfl⟩
          go_wp2_with fail
          refine Calls.mono kdg.out ?_
          rintro e w2 ⟨rfl, rfl⟩
          go_wp2_with fail
          refine Calls.mono kat.out ?_
          rintro e w2 ⟨rfl, rfl⟩
          go_wp2
          exact bodyPost_ret (v := .tuple #[.int .i64 0, .int .i64 0]) (by simp [results, Tryz.results29, go_sem]) rfl ⟨0, rfl, fun h => absurd rfl h, rfl⟩
        · have hnn : ¬ (inNameB (byteAt l IY) = true ∨ byteAt l IY = 46) := fun h => by
            rcases hin.2 h with h | h | h
            · exact c1 h
            · exact c2 h
            · exact c3 h
          rw [if_neg hnn] at hn
          obtain ⟨hnk, hnr⟩ := Prod.mk.inj hn
          have hwr : IntKind.i64.wrap ((IY : Int) - (i : Int)) = (NR : Int) := by
            have := hIY.out
            rw [IntKind.wrap_i64]; omega
          have e46 : ((AT : Int) == 46) = false := by rw [beq_eq_false_iff_ne]; omega
          rw [show isLetterB (AT : Int) = false by simpa using c1] at klt
          rw [show isDigitB (AT : Int) = false by simpa using c2] at kdg
          clear hn hin hnn c1 c2 c3 hnr
          go_wp2_with fail
          refine Calls.mono kat.out ?_
          rintro e w2 ⟨rfl, rfl⟩
          go_wp2_with fail
          refine Calls.mono klt.out ?_
          rintro e w2 ⟨rfl, rfl⟩
          go_wp2_with fail
          refine Calls.mono kat.out ?_
          rintro e w2 ⟨rfl, rfl⟩
          go_wp2_with fail
          refine Calls.mono kdg.out ?_
          rintro e w2 ⟨rfl, rfl⟩
          go_wp2_with fail
          refine Calls.mono kat.out ?_
          rintro e w2 ⟨rfl, rfl⟩
          go_wp2
          exact bodyPost_ret (v := .tuple #[.int .i64 Y1, .int .i64 NR]) (by simp [results, Tryz.results29, go_sem]) rfl ⟨Y1, rfl, fun _ => hnk.symm, rfl⟩
  case first =>
    clear hnum
    by_cases hx0 : C0 = 48
    · subst hx0
      by_cases hx1 : C1 = 120
      · subst hx1
        have hb0 : byteAt L 0 = 48 := hC0.out
        have hb1 : byteAt L 1 = 120 := by have := hC1.out; omega
        have hyx := based_hex L hb0 (.inl hb1)
        rw [hY.out] at hyx
        have hlen : i + 2 ≤ l.length := by
          have h2 := len_two L (by omega)
          rw [hL.out, List.length_drop] at h2
          omega
        clear hb0 hb1 hC0 hC1
        obtain ⟨I2, hI2⟩ : ∃ I2, I2 = i + 2 := ⟨_, rfl⟩
        replace hI2 : Hid _ := hI2
        have hd2 : L.drop 2 = l.drop I2 := by rw [hL.out, List.drop_drop, hI2.out]
        have hI2l : I2 ≤ l.length := by have := hI2.out; omega
        have kd : Hid _ := digits_any w2 ad cap I2 16 l hB.out (by omega) (by omega)
        rw [digs16] at kd
        have hs1 := spanL_le isHexB (l.drop I2)
        rw [List.length_drop] at hs1
        generalize hN1 : spanL isHexB (l.drop I2) = N1 at *
        replace hs1 : Hid _ := hs1
        replace hN1 : Hid _ := hN1
        replace hd2 : Hid _ := hd2
        obtain ⟨K1, hK1⟩ : ∃ K1, K1 = I2 + N1 := ⟨_, rfl⟩
        replace hK1 : Hid _ := hK1
        have hw2 : IntKind.i64.wrap ((i : Int) + 2) = ((I2 : Nat) : Int) := by have := hI2.out; rw [IntKind.wrap_i64]; omega
        have hw3 : IntKind.i64.wrap ((I2 : Int) + (N1 : Int)) = ((K1 : Nat) : Int) := by have := hK1.out; have := hs1.out; rw [IntKind.wrap_i64]; omega
        have hK1l : K1 ≤ l.length := by have := hK1.out; have := hs1.out; omega
        have kak : Hid _ := at_any w2 ad cap K1 l hB.out (by omega) (by omega)
        have hv2 : Hid _ := atv l K1
        have hbd : Hid (byteAt (L.drop 2) N1 = byteAt l K1) := by show _ = _; rw [hd2.out, byteAt_drop, hK1.out]
        generalize (l.getD K1 0).toNat = AK at *
        by_cases hdot : byteAt l K1 = 46
        · have e46 : ((AK : Int) == 46) = true := by have := hv2.out; rw [beq_iff_eq]; omega
          have hKlt : K1 < l.length := by
            rcases Nat.lt_or_ge K1 l.length with h | h
            · exact h
            · exfalso
              unfold byteAt at hdot
              rw [List.drop_eq_nil_of_le h] at hdot
              cases hdot
          obtain ⟨K11, hK11⟩ : ∃ K11, K11 = K1 + 1 := ⟨_, rfl⟩
          replace hK11 : Hid _ := hK11
          have kd2 : Hid _ := digits_any w2 ad cap K11 16 l hB.out (by have := hK11.out; omega) (by omega)
          rw [digs16] at kd2
          have hs2 := spanL_le isHexB (l.drop K11)
          rw [List.length_drop] at hs2
          have hd3 : Hid ((L.drop 2).drop (N1 + 1) = l.drop K11) := by show _ = _; rw [hd2.out, List.drop_drop, hK11.out, hK1.out, Nat.add_assoc]
          generalize hM1 : spanL isHexB (l.drop K11) = M1 at *
          replace hs2 : Hid _ := hs2
          replace hM1 : Hid _ := hM1
          obtain ⟨O1, hO1⟩ : ∃ O1, O1 = 1 + M1 := ⟨_, rfl⟩
          replace hO1 : Hid _ := hO1
          obtain ⟨K2, hK2⟩ : ∃ K2, K2 = K1 + O1 := ⟨_, rfl⟩
          replace hK2 : Hid _ := hK2
          have hw4 : IntKind.i64.wrap ((K1 : Int) + 1) = ((K11 : Nat) : Int) := by have := hK11.out; rw [IntKind.wrap_i64]; omega
          have hw6 : IntKind.i64.wrap (1 + (M1 : Int)) = ((O1 : Nat) : Int) := by have := hO1.out; have := hs2.out; rw [IntKind.wrap_i64]; omega
          have hK2l : K2 ≤ l.length := by have := hK11.out; have := hO1.out; have := hK2.out; have := hs2.out; omega
          have hw7 : IntKind.i64.wrap ((K1 : Int) + (O1 : Int)) = ((K2 : Nat) : Int) := by have := hK2.out; rw [IntKind.wrap_i64]; omega
          obtain ⟨NN, hNN⟩ : ∃ NN, NN = N1 + M1 := ⟨_, rfl⟩
          replace hNN : Hid _ := hNN
          have hw5 : IntKind.i64.wrap ((N1 : Int) + (M1 : Int)) = ((NN : Nat) : Int) := by have := hNN.out; have := hs1.out; have := hs2.out; rw [IntKind.wrap_i64]; omega
          obtain ⟨MM, hMM⟩ : ∃ MM, MM = K2 - i := ⟨_, rfl⟩
          replace hMM : Hid _ := hMM
          have kex : Hid _ := exponent_at w2 ad cap i K2 l hB.out (by have := hI2.out; have := hK1.out; have := hK2.out; omega) (by omega) hl 112 80 (by decide) (by decide) (by decide)
          rw [← hL.out, ← hMM.out] at kex
          have hec := expR_cases L MM 112 80
          have hyd := hex_dot L N1 M1 MM (by rw [hd2.out]; exact hN1.out) (by rw [hbd.out]; exact hdot) (by rw [hd3.out]; exact hM1.out) (by have := hI2.out; have := hK1.out; have := hK2.out; have := hO1.out; have := hMM.out; omega)
          rw [hyd] at hyx
          clear hyd hbd hd2 hd3 hN1 hM1 hv2 hdot
          rw [show N1 + M1 = NN from hNN.out.symm] at hyx
          by_cases hNz : NN = 0
          · rw [if_pos hNz] at hyx
            have dNN : ((NN : Int) == 0) = true := by rw [beq_iff_eq]; omega
            clear hNz
            generalize expR L MM 112 80 = EE at *
            clear hec
            have hy2 : Y2 = 0 := by exact (Prod.mk.inj hyx).2
            obtain rfl := hz.out hy2
            clear hy2
            clear hY hB hz hyx
            go_wp2_with fail
            refine Calls.mono kd.out ?_
            rintro e w2 ⟨rfl, rfl⟩
            go_wp2_with fail
            refine Calls.mono kak.out ?_
            rintro e w2 ⟨rfl, rfl⟩
            go_wp2_with fail
            refine Calls.mono kd2.out ?_
            rintro e w2 ⟨rfl, rfl⟩
            go_wp2_with fail
            refine Calls.mono kex.out ?_
            rintro e w2 ⟨rfl, rfl⟩
            go_wp2
            exact bodyPost_ret (v := .tuple #[.int .i64 0, .int .i64 0]) (by simp [results, Tryz.results29, go_sem]) rfl ⟨0, rfl, fun h => absurd rfl h, rfl⟩
          · rw [if_neg hNz] at hyx
            have dNN : ((NN : Int) == 0) = false := by rw [beq_eq_false_iff_ne]; omega
            generalize expR L MM 112 80 = EE at *
            rcases hec with ⟨rfl, hne⟩ | ⟨rfl, hpe, hem⟩ | ⟨q, hq, rfl, hpe, hem⟩
            · rw [if_neg hne] at hyx
              clear hne
              have hy2 : Y2 = 0 := by exact (Prod.mk.inj hyx).2
              obtain rfl := hz.out hy2
              clear hy2
              clear hY hB hz hyx
              go_wp2_with fail
              refine Calls.mono kd.out ?_
              rintro e w2 ⟨rfl, rfl⟩
              go_wp2_with fail
              refine Calls.mono kak.out ?_
              rintro e w2 ⟨rfl, rfl⟩
              go_wp2_with fail
              refine Calls.mono kd2.out ?_
              rintro e w2 ⟨rfl, rfl⟩
              go_wp2_with fail
              refine Calls.mono kex.out ?_
              rintro e w2 ⟨rfl, rfl⟩
              go_wp2
              exact bodyPost_ret (v := .tuple #[.int .i64 0, .int .i64 0]) (by simp [results, Tryz.results29, go_sem]) rfl ⟨0, rfl, fun h => absurd rfl h, rfl⟩
            · rw [if_pos hpe, hem] at hyx
              clear hpe hem
              have hy2 : Y2 = 0 := by exact (Prod.mk.inj hyx).2
              obtain rfl := hz.out hy2
              clear hy2
              clear hY hB hz hyx
              go_wp2_with fail
              refine Calls.mono kd.out ?_
              rintro e w2 ⟨rfl, rfl⟩
              go_wp2_with fail
              refine Calls.mono kak.out ?_
              rintro e w2 ⟨rfl, rfl⟩
              go_wp2_with fail
              refine Calls.mono kd2.out ?_
              rintro e w2 ⟨rfl, rfl⟩
              go_wp2_with fail
              refine Calls.mono kex.out ?_
              rintro e w2 ⟨rfl, rfl⟩
              go_wp2
              exact bodyPost_ret (v := .tuple #[.int .i64 0, .int .i64 0]) (by simp [results, Tryz.results29, go_sem]) rfl ⟨0, rfl, fun h => absurd rfl h, rfl⟩
            · rw [if_pos hpe, hem] at hyx
              clear hpe hem
              have hYq : Hid (MM + q ≤ l.length) := by have h1 := (Prod.mk.inj hyx).2; have := hYl.out; show _ ≤ _; omega
              obtain ⟨K3, hK3⟩ : ∃ K3, K3 = K2 + q := ⟨_, rfl⟩
              replace hK3 : Hid _ := hK3
              have hw8 : IntKind.i64.wrap ((K2 : Int) + (q : Int)) = ((K3 : Nat) : Int) := by have := hK3.out; have := hMM.out; have := hIY.out; have := hYq.out; rw [IntKind.wrap_i64]; omega
              have dq1 : decide ((q : Int) < 0) = false := decide_eq_false (by omega)
              have dq2 : ((q : Int) == 0) = false := by rw [beq_eq_false_iff_ne]; omega
              have dq3 : decide ((q : Int) > 0) = true := decide_eq_true (by omega)
              have hY1 : Y1 = 3 := (Prod.mk.inj hyx).1
              have hIYe : IY = K3 := by have h1 := (Prod.mk.inj hyx).2; have := hIY.out; have := hK3.out; have := hMM.out; have := hI2.out; have := hK1.out; have := hK2.out; have := hO1.out; have := hs1.out; have := hs2.out; omega
              subst hY1 hIYe
              clear hY hB hz hyx
              go_wp2_with fail
              refine Calls.mono kd.out ?_
              rintro e w2 ⟨rfl, rfl⟩
              go_wp2_with fail
              refine Calls.mono kak.out ?_
              rintro e w2 ⟨rfl, rfl⟩
              go_wp2_with fail
              refine Calls.mono kd2.out ?_
              rintro e w2 ⟨rfl, rfl⟩
              go_wp2_with fail
              refine Calls.mono kex.out ?_
              rintro e w2 ⟨rfl, rfl⟩
              go_wp2
              go_meet
              all_goals first | exact ⟨rfl, rfl, rfl⟩ | (refine ⟨?_, ?_, ?_⟩ <;> first | rfl | (congr 1; omega))
        · have e46 : ((AK : Int) == 46) = false := by have := hv2.out; rw [beq_eq_false_iff_ne]; omega
          obtain ⟨MM, hMM⟩ : ∃ MM, MM = K1 - i := ⟨_, rfl⟩
          replace hMM : Hid _ := hMM
          have kex : Hid _ := exponent_at w2 ad cap i K1 l hB.out (by have := hI2.out; have := hK1.out; omega) (by omega) hl 112 80 (by decide) (by decide) (by decide)
          rw [← hL.out, ← hMM.out] at kex
          have hec := expR_cases L MM 112 80
          have hyd := hex_nodot L N1 MM (by rw [hd2.out]; exact hN1.out) (by rw [hbd.out]; exact hdot) (by have := hI2.out; have := hK1.out; have := hMM.out; omega)
          rw [hyd] at hyx
          clear hyd hbd hd2 hN1 hv2 hdot
          by_cases hNz : N1 = 0
          · rw [if_pos hNz] at hyx
            have dNN : ((N1 : Int) == 0) = true := by rw [beq_iff_eq]; omega
            clear hNz
            generalize expR L MM 112 80 = EE at *
            clear hec
            have hy2 : Y2 = 0 := by exact (Prod.mk.inj hyx).2
            obtain rfl := hz.out hy2
            clear hy2
            clear hY hB hz hyx
            go_wp2_with fail
            refine Calls.mono kd.out ?_
            rintro e w2 ⟨rfl, rfl⟩
            go_wp2_with fail
            refine Calls.mono kak.out ?_
            rintro e w2 ⟨rfl, rfl⟩
            go_wp2_with fail
            refine Calls.mono kex.out ?_
            rintro e w2 ⟨rfl, rfl⟩
            go_wp2
            exact bodyPost_ret (v := .tuple #[.int .i64 0, .int .i64 0]) (by simp [results, Tryz.results29, go_sem]) rfl ⟨0, rfl, fun h => absurd rfl h, rfl⟩
          · rw [if_neg hNz] at hyx
            have dNN : ((N1 : Int) == 0) = false := by rw [beq_eq_false_iff_ne]; omega
            generalize expR L MM 112 80 = EE at *
            rcases hec with ⟨rfl, hne⟩ | ⟨rfl, hpe, hem⟩ | ⟨q, hq, rfl, hpe, hem⟩
            · rw [if_neg hne] at hyx
              clear hne
              have hY1 : Y1 = 2 := (Prod.mk.inj hyx).1
              have hIYe : IY = K1 := by have h1 := (Prod.mk.inj hyx).2; have := hIY.out; have := hMM.out; have := hI2.out; have := hK1.out; omega
              subst hY1 hIYe
              clear hY hB hz hyx
              go_wp2_with fail
              refine Calls.mono kd.out ?_
              rintro e w2 ⟨rfl, rfl⟩
              go_wp2_with fail
              refine Calls.mono kak.out ?_
              rintro e w2 ⟨rfl, rfl⟩
              go_wp2_with fail
              refine Calls.mono kex.out ?_
              rintro e w2 ⟨rfl, rfl⟩
              go_wp2
              go_meet
              all_goals first | exact ⟨rfl, rfl, rfl⟩ | (refine ⟨?_, ?_, ?_⟩ <;> first | rfl | (congr 1; omega))
            · rw [if_pos hpe, hem] at hyx
              clear hpe hem
              have hy2 : Y2 = 0 := by exact (Prod.mk.inj hyx).2
              obtain rfl := hz.out hy2
              clear hy2
              clear hY hB hz hyx
              go_wp2_with fail
              refine Calls.mono kd.out ?_
              rintro e w2 ⟨rfl, rfl⟩
              go_wp2_with fail
              refine Calls.mono kak.out ?_
              rintro e w2 ⟨rfl, rfl⟩
              go_wp2_with fail
              refine Calls.mono kex.out ?_
              rintro e w2 ⟨rfl, rfl⟩
              go_wp2
              exact bodyPost_ret (v := .tuple #[.int .i64 0, .int .i64 0]) (by simp [results, Tryz.results29, go_sem]) rfl ⟨0, rfl, fun h => absurd rfl h, rfl⟩
            · rw [if_pos hpe, hem] at hyx
              clear hpe hem
              have hYq : Hid (MM + q ≤ l.length) := by have h1 := (Prod.mk.inj hyx).2; have := hYl.out; show _ ≤ _; omega
              obtain ⟨K3, hK3⟩ : ∃ K3, K3 = K1 + q := ⟨_, rfl⟩
              replace hK3 : Hid _ := hK3
              have hw8 : IntKind.i64.wrap ((K1 : Int) + (q : Int)) = ((K3 : Nat) : Int) := by have := hK3.out; have := hMM.out; have := hIY.out; have := hYq.out; rw [IntKind.wrap_i64]; omega
              have dq1 : decide ((q : Int) < 0) = false := decide_eq_false (by omega)
              have dq2 : ((q : Int) == 0) = false := by rw [beq_eq_false_iff_ne]; omega
              have dq3 : decide ((q : Int) > 0) = true := decide_eq_true (by omega)
              have hY1 : Y1 = 3 := (Prod.mk.inj hyx).1
              have hIYe : IY = K3 := by have h1 := (Prod.mk.inj hyx).2; have := hIY.out; have := hK3.out; have := hMM.out; have := hI2.out; have := hK1.out; have := hs1.out; omega
              subst hY1 hIYe
              clear hY hB hz hyx
              go_wp2_with fail
              refine Calls.mono kd.out ?_
              rintro e w2 ⟨rfl, rfl⟩
              go_wp2_with fail
              refine Calls.mono kak.out ?_
              rintro e w2 ⟨rfl, rfl⟩
              go_wp2_with fail
              refine Calls.mono kex.out ?_
              rintro e w2 ⟨rfl, rfl⟩
              go_wp2
              go_meet
              all_goals first | exact ⟨rfl, rfl, rfl⟩ | (refine ⟨?_, ?_, ?_⟩ <;> first | rfl | (congr 1; omega))
      · by_cases hx1 : C1 = 88
        · subst hx1
          have hb0 : byteAt L 0 = 48 := hC0.out
          have hb1 : byteAt L 1 = 88 := by have := hC1.out; omega
          have hyx := based_hex L hb0 (.inr hb1)
          rw [hY.out] at hyx
          have hlen : i + 2 ≤ l.length := by
            have h2 := len_two L (by omega)
            rw [hL.out, List.length_drop] at h2
            omega
          clear hb0 hb1 hC0 hC1
          obtain ⟨I2, hI2⟩ : ∃ I2, I2 = i + 2 := ⟨_, rfl⟩
          replace hI2 : Hid _ := hI2
          have hd2 : L.drop 2 = l.drop I2 := by rw [hL.out, List.drop_drop, hI2.out]
          have hI2l : I2 ≤ l.length := by have := hI2.out; omega
          have kd : Hid _ := digits_any w2 ad cap I2 16 l hB.out (by omega) (by omega)
          rw [digs16] at kd
          have hs1 := spanL_le isHexB (l.drop I2)
          rw [List.length_drop] at hs1
          generalize hN1 : spanL isHexB (l.drop I2) = N1 at *
          replace hs1 : Hid _ := hs1
          replace hN1 : Hid _ := hN1
          replace hd2 : Hid _ := hd2
          obtain ⟨K1, hK1⟩ : ∃ K1, K1 = I2 + N1 := ⟨_, rfl⟩
          replace hK1 : Hid _ := hK1
          have hw2 : IntKind.i64.wrap ((i : Int) + 2) = ((I2 : Nat) : Int) := by have := hI2.out; rw [IntKind.wrap_i64]; omega
          have hw3 : IntKind.i64.wrap ((I2 : Int) + (N1 : Int)) = ((K1 : Nat) : Int) := by have := hK1.out; have := hs1.out; rw [IntKind.wrap_i64]; omega
          have hK1l : K1 ≤ l.length := by have := hK1.out; have := hs1.out; omega
          have kak : Hid _ := at_any w2 ad cap K1 l hB.out (by omega) (by omega)
          have hv2 : Hid _ := atv l K1
          have hbd : Hid (byteAt (L.drop 2) N1 = byteAt l K1) := by show _ = _; rw [hd2.out, byteAt_drop, hK1.out]
          generalize (l.getD K1 0).toNat = AK at *
          by_cases hdot : byteAt l K1 = 46
          · have e46 : ((AK : Int) == 46) = true := by have := hv2.out; rw [beq_iff_eq]; omega
            have hKlt : K1 < l.length := by
              rcases Nat.lt_or_ge K1 l.length with h | h
              · exact h
              · exfalso
                unfold byteAt at hdot
                rw [List.drop_eq_nil_of_le h] at hdot
                cases hdot
            obtain ⟨K11, hK11⟩ : ∃ K11, K11 = K1 + 1 := ⟨_, rfl⟩
            replace hK11 : Hid _ := hK11
            have kd2 : Hid _ := digits_any w2 ad cap K11 16 l hB.out (by have := hK11.out; omega) (by omega)
            rw [digs16] at kd2
            have hs2 := spanL_le isHexB (l.drop K11)
            rw [List.length_drop] at hs2
            have hd3 : Hid ((L.drop 2).drop (N1 + 1) = l.drop K11) := by show _ = _; rw [hd2.out, List.drop_drop, hK11.out, hK1.out, Nat.add_assoc]
            generalize hM1 : spanL isHexB (l.drop K11) = M1 at *
            replace hs2 : Hid _ := hs2
            replace hM1 : Hid _ := hM1
            obtain ⟨O1, hO1⟩ : ∃ O1, O1 = 1 + M1 := ⟨_, rfl⟩
            replace hO1 : Hid _ := hO1
            obtain ⟨K2, hK2⟩ : ∃ K2, K2 = K1 + O1 := ⟨_, rfl⟩
            replace hK2 : Hid _ := hK2
            have hw4 : IntKind.i64.wrap ((K1 : Int) + 1) = ((K11 : Nat) : Int) := by have := hK11.out; rw [IntKind.wrap_i64]; omega
            have hw6 : IntKind.i64.wrap (1 + (M1 : Int)) = ((O1 : Nat) : Int) := by have := hO1.out; have := hs2.out; rw [IntKind.wrap_i64]; omega
            have hK2l : K2 ≤ l.length := by have := hK11.out; have := hO1.out; have := hK2.out; have := hs2.out; omega
            have hw7 : IntKind.i64.wrap ((K1 : Int) + (O1 : Int)) = ((K2 : Nat) : Int) := by have := hK2.out; rw [IntKind.wrap_i64]; omega
            obtain ⟨NN, hNN⟩ : ∃ NN, NN = N1 + M1 := ⟨_, rfl⟩
            replace hNN : Hid _ := hNN
            have hw5 : IntKind.i64.wrap ((N1 : Int) + (M1 : Int)) = ((NN : Nat) : Int) := by have := hNN.out; have := hs1.out; have := hs2.out; rw [IntKind.wrap_i64]; omega
            obtain ⟨MM, hMM⟩ : ∃ MM, MM = K2 - i := ⟨_, rfl⟩
            replace hMM : Hid _ := hMM
            have kex : Hid _ := exponent_at w2 ad cap i K2 l hB.out (by have := hI2.out; have := hK1.out; have := hK2.out; omega) (by omega) hl 112 80 (by decide) (by decide) (by decide)
            rw [← hL.out, ← hMM.out] at kex
            have hec := expR_cases L MM 112 80
            have hyd := hex_dot L N1 M1 MM (by rw [hd2.out]; exact hN1.out) (by rw [hbd.out]; exact hdot) (by rw [hd3.out]; exact hM1.out) (by have := hI2.out; have := hK1.out; have := hK2.out; have := hO1.out; have := hMM.out; omega)
            rw [hyd] at hyx
            clear hyd hbd hd2 hd3 hN1 hM1 hv2 hdot
            rw [show N1 + M1 = NN from hNN.out.symm] at hyx
            by_cases hNz : NN = 0
            · rw [if_pos hNz] at hyx
              have dNN : ((NN : Int) == 0) = true := by rw [beq_iff_eq]; omega
              clear hNz
              generalize expR L MM 112 80 = EE at *
              clear hec
              have hy2 : Y2 = 0 := by exact (Prod.mk.inj hyx).2
              obtain rfl := hz.out hy2
              clear hy2
              clear hY hB hz hyx
              go_wp2_with fail
              refine Calls.mono kd.out ?_
              rintro e w2 ⟨rfl, rfl⟩
              go_wp2_with fail
              refine Calls.mono kak.out ?_
              rintro e w2 ⟨rfl, rfl⟩
              go_wp2_with fail
              refine Calls.mono kd2.out ?_
              rintro e w2 ⟨rfl, rfl⟩
              go_wp2_with fail
              refine Calls.mono kex.out ?_
              rintro e w2 ⟨rfl, rfl⟩
              go_wp2
              exact bodyPost_ret (v := .tuple #[.int .i64 0, .int .i64 0]) (by simp [results, Tryz.results29, go_sem]) rfl ⟨0, rfl, fun h => absurd rfl h, rfl⟩
            · rw [if_neg hNz] at hyx
              have dNN : ((NN : Int) == 0) = false := by rw [beq_eq_false_iff_ne]; omega
              generalize expR L MM 112 80 = EE at *
              rcases hec with ⟨rfl, hne⟩ | ⟨rfl, hpe, hem⟩ | ⟨q, hq, rfl, hpe, hem⟩
              · rw [if_neg hne] at hyx
                clear hne
                have hy2 : Y2 = 0 := by exact (Prod.mk.inj hyx).2
                obtain rfl := hz.out hy2
                clear hy2
                clear hY hB hz hyx
                go_wp2_with fail
                refine Calls.mono kd.out ?_
                rintro e w2 ⟨rfl, rfl⟩
                go_wp2_with fail
                refine Calls.mono kak.out ?_
                rintro e w2 ⟨rfl, rfl⟩
                go_wp2_with fail
                refine Calls.mono kd2.out ?_
                rintro e w2 ⟨rfl, rfl⟩
                go_wp2_with fail
                refine Calls.mono kex.out ?_
                rintro e w2 ⟨rfl, rfl⟩
                go_wp2
                exact bodyPost_ret (v := .tuple #[.int .i64 0, .int .i64 0]) (by simp [results, Tryz.results29, go_sem]) rfl ⟨0, rfl, fun h => absurd rfl h, rfl⟩
              · rw [if_pos hpe, hem] at hyx
                clear hpe hem
                have hy2 : Y2 = 0 := by exact (Prod.mk.inj hyx).2
                obtain rfl := hz.out hy2
                clear hy2
                clear hY hB hz hyx
                go_wp2_with fail
                refine Calls.mono kd.out ?_
                rintro e w2 ⟨rfl, rfl⟩
                go_wp2_with fail
                refine Calls.mono kak.out ?_
                rintro e w2 ⟨rfl, rfl⟩
                go_wp2_with fail
                refine Calls.mono kd2.out ?_
                rintro e w2 ⟨rfl, rfl⟩
                go_wp2_with fail
                refine Calls.mono kex.out ?_
                rintro e w2 ⟨rfl, rfl⟩
                go_wp2
                exact bodyPost_ret (v := .tuple #[.int .i64 0, .int .i64 0]) (by simp [results, Tryz.results29, go_sem]) rfl ⟨0, rfl, fun h => absurd rfl h, rfl⟩
              · rw [if_pos hpe, hem] at hyx
                clear hpe hem
                have hYq : Hid (MM + q ≤ l.length) := by have h1 := (Prod.mk.inj hyx).2; have := hYl.out; show _ ≤ _; omega
                obtain ⟨K3, hK3⟩ : ∃ K3, K3 = K2 + q := ⟨_, rfl⟩
                replace hK3 : Hid _ := hK3
                have hw8 : IntKind.i64.wrap ((K2 : Int) + (q : Int)) = ((K3 : Nat) : Int) := by have := hK3.out; have := hMM.out; have := hIY.out; have := hYq.out; rw [IntKind.wrap_i64]; omega
                have dq1 : decide ((q : Int) < 0) = false := decide_eq_false (by omega)
                have dq2 : ((q : Int) == 0) = false := by rw [beq_eq_false_iff_ne]; omega
                have dq3 : decide ((q : Int) > 0) = true := decide_eq_true (by omega)
                have hY1 : Y1 = 3 := (Prod.mk.inj hyx).1
                have hIYe : IY = K3 := by have h1 := (Prod.mk.inj hyx).2; have := hIY.out; have := hK3.out; have := hMM.out; have := hI2.out; have := hK1.out; have := hK2.out; have := hO1.out; have := hs1.out; have := hs2.out; omega
                subst hY1 hIYe
                clear hY hB hz hyx
                go_wp2_with fail
                refine Calls.mono kd.out ?_
                rintro e w2 ⟨rfl, rfl⟩
                go_wp2_with fail
                refine Calls.mono kak.out ?_
                rintro e w2 ⟨rfl, rfl⟩
                go_wp2_with fail
                refine Calls.mono kd2.out ?_
                rintro e w2 ⟨rfl, rfl⟩
                go_wp2_with fail
                refine Calls.mono kex.out ?_
                rintro e w2 ⟨rfl, rfl⟩
                go_wp2
                go_meet
                all_goals first | exact ⟨rfl, rfl, rfl⟩ | (refine ⟨?_, ?_, ?_⟩ <;> first | rfl | (congr 1; omega))
          · have e46 : ((AK : Int) == 46) = false := by have := hv2.out; rw [beq_eq_false_iff_ne]; omega
            obtain ⟨MM, hMM⟩ : ∃ MM, MM = K1 - i := ⟨_, rfl⟩
            replace hMM : Hid _ := hMM
            have kex : Hid _ := exponent_at w2 ad cap i K1 l hB.out (by have := hI2.out; have := hK1.out; omega) (by omega) hl 112 80 (by decide) (by decide) (by decide)
            rw [← hL.out, ← hMM.out] at kex
            have hec := expR_cases L MM 112 80
            have hyd := hex_nodot L N1 MM (by rw [hd2.out]; exact hN1.out) (by rw [hbd.out]; exact hdot) (by have := hI2.out; have := hK1.out; have := hMM.out; omega)
            rw [hyd] at hyx
            clear hyd hbd hd2 hN1 hv2 hdot
            by_cases hNz : N1 = 0
            · rw [if_pos hNz] at hyx
              have dNN : ((N1 : Int) == 0) = true := by rw [beq_iff_eq]; omega
              clear hNz
              generalize expR L MM 112 80 = EE at *
              clear hec
              have hy2 : Y2 = 0 := by exact (Prod.mk.inj hyx).2
              obtain rfl := hz.out hy2
              clear hy2
              clear hY hB hz hyx
              go_wp2_with fail
              refine Calls.mono kd.out ?_
              rintro e w2 ⟨rfl, rfl⟩
              go_wp2_with fail
              refine Calls.mono kak.out ?_
              rintro e w2 ⟨rfl, rfl⟩
              go_wp2_with fail
              refine Calls.mono kex.out ?_
              rintro e w2 ⟨rfl, rfl⟩
              go_wp2
              exact bodyPost_ret (v := .tuple #[.int .i64 0, .int .i64 0]) (by simp [results, Tryz.results29, go_sem]) rfl ⟨0, rfl, fun h => absurd rfl h, rfl⟩
            · rw [if_neg hNz] at hyx
              have dNN : ((N1 : Int) == 0) = false := by rw [beq_eq_false_iff_ne]; omega
              generalize expR L MM 112 80 = EE at *
              rcases hec with ⟨rfl, hne⟩ | ⟨rfl, hpe, hem⟩ | ⟨q, hq, rfl, hpe, hem⟩
              · rw [if_neg hne] at hyx
                clear hne
                have hY1 : Y1 = 2 := (Prod.mk.inj hyx).1
                have hIYe : IY = K1 := by have h1 := (Prod.mk.inj hyx).2; have := hIY.out; have := hMM.out; have := hI2.out; have := hK1.out; omega
                subst hY1 hIYe
                clear hY hB hz hyx
                go_wp2_with fail
                refine Calls.mono kd.out ?_
                rintro e w2 ⟨rfl, rfl⟩
                go_wp2_with fail
                refine Calls.mono kak.out ?_
                rintro e w2 ⟨rfl, rfl⟩
                go_wp2_with fail
                refine Calls.mono kex.out ?_
                rintro e w2 ⟨rfl, rfl⟩
                go_wp2
                go_meet
                all_goals first | exact ⟨rfl, rfl, rfl⟩ | (refine ⟨?_, ?_, ?_⟩ <;> first | rfl | (congr 1; omega))
              · rw [if_pos hpe, hem] at hyx
                clear hpe hem
                have hy2 : Y2 = 0 := by exact (Prod.mk.inj hyx).2
                obtain rfl := hz.out hy2
                clear hy2
                clear hY hB hz hyx
                go_wp2_with fail
                refine Calls.mono kd.out ?_
                rintro e w2 ⟨rfl, rfl⟩
                go_wp2_with fail
                refine Calls.mono kak.out ?_
                rintro e w2 ⟨rfl, rfl⟩
                go_wp2_with fail
                refine Calls.mono kex.out ?_
                rintro e w2 ⟨rfl, rfl⟩
                go_wp2
                exact bodyPost_ret (v := .tuple #[.int .i64 0, .int .i64 0]) (by simp [results, Tryz.results29, go_sem]) rfl ⟨0, rfl, fun h => absurd rfl h, rfl⟩
              · rw [if_pos hpe, hem] at hyx
                clear hpe hem
                have hYq : Hid (MM + q ≤ l.length) := by have h1 := (Prod.mk.inj hyx).2; have := hYl.out; show _ ≤ _; omega
                obtain ⟨K3, hK3⟩ : ∃ K3, K3 = K1 + q := ⟨_, rfl⟩
                replace hK3 : Hid _ := hK3
                have hw8 : IntKind.i64.wrap ((K1 : Int) + (q : Int)) = ((K3 : Nat) : Int) := by have := hK3.out; have := hMM.out; have := hIY.out; have := hYq.out; rw [IntKind.wrap_i64]; omega
                have dq1 : decide ((q : Int) < 0) = false := decide_eq_false (by omega)
                have dq2 : ((q : Int) == 0) = false := by rw [beq_eq_false_iff_ne]; omega
                have dq3 : decide ((q : Int) > 0) = true := decide_eq_true (by omega)
                have hY1 : Y1 = 3 := (Prod.mk.inj hyx).1
                have hIYe : IY = K3 := by have h1 := (Prod.mk.inj hyx).2; have := hIY.out; have := hK3.out; have := hMM.out; have := hI2.out; have := hK1.out; have := hs1.out; omega
                subst hY1 hIYe
                clear hY hB hz hyx
                go_wp2_with fail
                refine Calls.mono kd.out ?_
                rintro e w2 ⟨rfl, rfl⟩
                go_wp2_with fail
                refine Calls.mono kak.out ?_
                rintro e w2 ⟨rfl, rfl⟩
                go_wp2_with fail
                refine Calls.mono kex.out ?_
                rintro e w2 ⟨rfl, rfl⟩
                go_wp2
                go_meet
                all_goals first | exact ⟨rfl, rfl, rfl⟩ | (refine ⟨?_, ?_, ?_⟩ <;> first | rfl | (congr 1; omega))
        · by_cases hx1 : C1 = 111
          · subst hx1
            have hb0 : byteAt L 0 = 48 := hC0.out
            have hb1 : byteAt L 1 = 111 := by have := hC1.out; omega
            have hyx := based_oct L hb0 (.inl hb1)
            rw [hY.out] at hyx
            have hlen : i + 2 ≤ l.length := by
              have h2 := len_two L (by omega)
              rw [hL.out, List.length_drop] at h2
              omega
            clear hb0 hb1 hC0 hC1
            obtain ⟨I2, hI2⟩ : ∃ I2, I2 = i + 2 := ⟨_, rfl⟩
            replace hI2 : Hid _ := hI2
            have hd2 : L.drop 2 = l.drop I2 := by rw [hL.out, List.drop_drop, hI2.out]
            have hI2l : I2 ≤ l.length := by have := hI2.out; omega
            have kd : Hid _ := digits_any w2 ad cap I2 8 l hB.out (by omega) (by omega)
            rw [digs8] at kd
            have hs1 := spanL_le isOctalB (l.drop I2)
            rw [List.length_drop] at hs1
            generalize hN1 : spanL isOctalB (l.drop I2) = N1 at *
            replace hs1 : Hid _ := hs1
            replace hN1 : Hid _ := hN1
            replace hd2 : Hid _ := hd2
            obtain ⟨K1, hK1⟩ : ∃ K1, K1 = I2 + N1 := ⟨_, rfl⟩
            replace hK1 : Hid _ := hK1
            have hw2 : IntKind.i64.wrap ((i : Int) + 2) = ((I2 : Nat) : Int) := by have := hI2.out; rw [IntKind.wrap_i64]; omega
            have hw3 : IntKind.i64.wrap ((I2 : Int) + (N1 : Int)) = ((K1 : Nat) : Int) := by have := hK1.out; have := hs1.out; rw [IntKind.wrap_i64]; omega
            unfold wholeM at hyx
            rw [show spanL isOctalB (L.drop 2) = N1 by rw [hd2.out]; exact hN1.out] at hyx
            clear hd2 hN1
            by_cases hNz : N1 = 0
            · rw [if_pos hNz] at hyx
              subst hNz
              have hy2 : Y2 = 0 := by exact (Prod.mk.inj hyx).2
              obtain rfl := hz.out hy2
              clear hy2
              clear hY hB hz hyx
              go_wp2_with fail
              refine Calls.mono kd.out ?_
              rintro e w2 ⟨rfl, rfl⟩
              go_wp2
              exact bodyPost_ret (v := .tuple #[.int .i64 0, .int .i64 0]) (by simp [results, Tryz.results29, go_sem]) rfl ⟨0, rfl, fun h => absurd rfl h, rfl⟩
            · rw [if_neg hNz] at hyx
              have dNN : ((N1 : Int) == 0) = false := by rw [beq_eq_false_iff_ne]; omega
              have hY1 : Y1 = 2 := (Prod.mk.inj hyx).1
              have hIYe : IY = K1 := by have h1 := (Prod.mk.inj hyx).2; have := hIY.out; have := hI2.out; have := hK1.out; have := hs1.out; omega
              subst hY1 hIYe
              clear hY hB hz hyx
              go_wp2_with fail
              refine Calls.mono kd.out ?_
              rintro e w2 ⟨rfl, rfl⟩
              go_wp2
              go_meet
              all_goals first | exact ⟨rfl, rfl, rfl⟩ | (refine ⟨?_, ?_, ?_⟩ <;> first | rfl | (congr 1; omega))
          · by_cases hx1 : C1 = 79
            · subst hx1
              have hb0 : byteAt L 0 = 48 := hC0.out
              have hb1 : byteAt L 1 = 79 := by have := hC1.out; omega
              have hyx := based_oct L hb0 (.inr hb1)
              rw [hY.out] at hyx
              have hlen : i + 2 ≤ l.length := by
                have h2 := len_two L (by omega)
                rw [hL.out, List.length_drop] at h2
                omega
              clear hb0 hb1 hC0 hC1
              obtain ⟨I2, hI2⟩ : ∃ I2, I2 = i + 2 := ⟨_, rfl⟩
              replace hI2 : Hid _ := hI2
              have hd2 : L.drop 2 = l.drop I2 := by rw [hL.out, List.drop_drop, hI2.out]
              have hI2l : I2 ≤ l.length := by have := hI2.out; omega
              have kd : Hid _ := digits_any w2 ad cap I2 8 l hB.out (by omega) (by omega)
              rw [digs8] at kd
              have hs1 := spanL_le isOctalB (l.drop I2)
              rw [List.length_drop] at hs1
              generalize hN1 : spanL isOctalB (l.drop I2) = N1 at *
              replace hs1 : Hid _ := hs1
              replace hN1 : Hid _ := hN1
              replace hd2 : Hid _ := hd2
              obtain ⟨K1, hK1⟩ : ∃ K1, K1 = I2 + N1 := ⟨_, rfl⟩
              replace hK1 : Hid _ := hK1
              have hw2 : IntKind.i64.wrap ((i : Int) + 2) = ((I2 : Nat) : Int) := by have := hI2.out; rw [IntKind.wrap_i64]; omega
              have hw3 : IntKind.i64.wrap ((I2 : Int) + (N1 : Int)) = ((K1 : Nat) : Int) := by have := hK1.out; have := hs1.out; rw [IntKind.wrap_i64]; omega
              unfold wholeM at hyx
              rw [show spanL isOctalB (L.drop 2) = N1 by rw [hd2.out]; exact hN1.out] at hyx
              clear hd2 hN1
              by_cases hNz : N1 = 0
              · rw [if_pos hNz] at hyx
                subst hNz
                have hy2 : Y2 = 0 := by exact (Prod.mk.inj hyx).2
                obtain rfl := hz.out hy2
                clear hy2
                clear hY hB hz hyx
                go_wp2_with fail
                refine Calls.mono kd.out ?_
                rintro e w2 ⟨rfl, rfl⟩
                go_wp2
                exact bodyPost_ret (v := .tuple #[.int .i64 0, .int .i64 0]) (by simp [results, Tryz.results29, go_sem]) rfl ⟨0, rfl, fun h => absurd rfl h, rfl⟩
              · rw [if_neg hNz] at hyx
                have dNN : ((N1 : Int) == 0) = false := by rw [beq_eq_false_iff_ne]; omega
                have hY1 : Y1 = 2 := (Prod.mk.inj hyx).1
                have hIYe : IY = K1 := by have h1 := (Prod.mk.inj hyx).2; have := hIY.out; have := hI2.out; have := hK1.out; have := hs1.out; omega
                subst hY1 hIYe
                clear hY hB hz hyx
                go_wp2_with fail
                refine Calls.mono kd.out ?_
                rintro e w2 ⟨rfl, rfl⟩
                go_wp2
                go_meet
                all_goals first | exact ⟨rfl, rfl, rfl⟩ | (refine ⟨?_, ?_, ?_⟩ <;> first | rfl | (congr 1; omega))
            · by_cases hx1 : C1 = 98
              · subst hx1
                have hb0 : byteAt L 0 = 48 := hC0.out
                have hb1 : byteAt L 1 = 98 := by have := hC1.out; omega
                have hyx := based_bin L hb0 (.inl hb1)
                rw [hY.out] at hyx
                have hlen : i + 2 ≤ l.length := by
                  have h2 := len_two L (by omega)
                  rw [hL.out, List.length_drop] at h2
                  omega
                clear hb0 hb1 hC0 hC1
                obtain ⟨I2, hI2⟩ : ∃ I2, I2 = i + 2 := ⟨_, rfl⟩
                replace hI2 : Hid _ := hI2
                have hd2 : L.drop 2 = l.drop I2 := by rw [hL.out, List.drop_drop, hI2.out]
                have hI2l : I2 ≤ l.length := by have := hI2.out; omega
                have kd : Hid _ := digits_any w2 ad cap I2 2 l hB.out (by omega) (by omega)
                rw [digs2] at kd
                have hs1 := spanL_le isBinaryB (l.drop I2)
                rw [List.length_drop] at hs1
                generalize hN1 : spanL isBinaryB (l.drop I2) = N1 at *
                replace hs1 : Hid _ := hs1
                replace hN1 : Hid _ := hN1
                replace hd2 : Hid _ := hd2
                obtain ⟨K1, hK1⟩ : ∃ K1, K1 = I2 + N1 := ⟨_, rfl⟩
                replace hK1 : Hid _ := hK1
                have hw2 : IntKind.i64.wrap ((i : Int) + 2) = ((I2 : Nat) : Int) := by have := hI2.out; rw [IntKind.wrap_i64]; omega
                have hw3 : IntKind.i64.wrap ((I2 : Int) + (N1 : Int)) = ((K1 : Nat) : Int) := by have := hK1.out; have := hs1.out; rw [IntKind.wrap_i64]; omega
                unfold wholeM at hyx
                rw [show spanL isBinaryB (L.drop 2) = N1 by rw [hd2.out]; exact hN1.out] at hyx
                clear hd2 hN1
                by_cases hNz : N1 = 0
                · rw [if_pos hNz] at hyx
                  subst hNz
                  have hy2 : Y2 = 0 := by exact (Prod.mk.inj hyx).2
                  obtain rfl := hz.out hy2
                  clear hy2
                  clear hY hB hz hyx
                  go_wp2_with fail
                  refine Calls.mono kd.out ?_
                  rintro e w2 ⟨rfl, rfl⟩
                  go_wp2
                  exact bodyPost_ret (v := .tuple #[.int .i64 0, .int .i64 0]) (by simp [results, Tryz.results29, go_sem]) rfl ⟨0, rfl, fun h => absurd rfl h, rfl⟩
                · rw [if_neg hNz] at hyx
                  have dNN : ((N1 : Int) == 0) = false := by rw [beq_eq_false_iff_ne]; omega
                  have hY1 : Y1 = 2 := (Prod.mk.inj hyx).1
                  have hIYe : IY = K1 := by have h1 := (Prod.mk.inj hyx).2; have := hIY.out; have := hI2.out; have := hK1.out; have := hs1.out; omega
                  subst hY1 hIYe
                  clear hY hB hz hyx
                  go_wp2_with fail
                  refine Calls.mono kd.out ?_
                  rintro e w2 ⟨rfl, rfl⟩
                  go_wp2
                  go_meet
                  all_goals first | exact ⟨rfl, rfl, rfl⟩ | (refine ⟨?_, ?_, ?_⟩ <;> first | rfl | (congr 1; omega))
              · by_cases hx1 : C1 = 66
                · subst hx1
                  have hb0 : byteAt L 0 = 48 := hC0.out
                  have hb1 : byteAt L 1 = 66 := by have := hC1.out; omega
                  have hyx := based_bin L hb0 (.inr hb1)
                  rw [hY.out] at hyx
                  have hlen : i + 2 ≤ l.length := by
                    have h2 := len_two L (by omega)
                    rw [hL.out, List.length_drop] at h2
                    omega
                  clear hb0 hb1 hC0 hC1
                  obtain ⟨I2, hI2⟩ : ∃ I2, I2 = i + 2 := ⟨_, rfl⟩
                  replace hI2 : Hid _ := hI2
                  have hd2 : L.drop 2 = l.drop I2 := by rw [hL.out, List.drop_drop, hI2.out]
                  have hI2l : I2 ≤ l.length := by have := hI2.out; omega
                  have kd : Hid _ := digits_any w2 ad cap I2 2 l hB.out (by omega) (by omega)
                  rw [digs2] at kd
                  have hs1 := spanL_le isBinaryB (l.drop I2)
                  rw [List.length_drop] at hs1
                  generalize hN1 : spanL isBinaryB (l.drop I2) = N1 at *
                  replace hs1 : Hid _ := hs1
                  replace hN1 : Hid _ := hN1
                  replace hd2 : Hid _ := hd2
                  obtain ⟨K1, hK1⟩ : ∃ K1, K1 = I2 + N1 := ⟨_, rfl⟩
                  replace hK1 : Hid _ := hK1
                  have hw2 : IntKind.i64.wrap ((i : Int) + 2) = ((I2 : Nat) : Int) := by have := hI2.out; rw [IntKind.wrap_i64]; omega
                  have hw3 : IntKind.i64.wrap ((I2 : Int) + (N1 : Int)) = ((K1 : Nat) : Int) := by have := hK1.out; have := hs1.out; rw [IntKind.wrap_i64]; omega
                  unfold wholeM at hyx
                  rw [show spanL isBinaryB (L.drop 2) = N1 by rw [hd2.out]; exact hN1.out] at hyx
                  clear hd2 hN1
                  by_cases hNz : N1 = 0
                  · rw [if_pos hNz] at hyx
                    subst hNz
                    have hy2 : Y2 = 0 := by exact (Prod.mk.inj hyx).2
                    obtain rfl := hz.out hy2
                    clear hy2
                    clear hY hB hz hyx
                    go_wp2_with fail
                    refine Calls.mono kd.out ?_
                    rintro e w2 ⟨rfl, rfl⟩
                    go_wp2
                    exact bodyPost_ret (v := .tuple #[.int .i64 0, .int .i64 0]) (by simp [results, Tryz.results29, go_sem]) rfl ⟨0, rfl, fun h => absurd rfl h, rfl⟩
                  · rw [if_neg hNz] at hyx
                    have dNN : ((N1 : Int) == 0) = false := by rw [beq_eq_false_iff_ne]; omega
                    have hY1 : Y1 = 2 := (Prod.mk.inj hyx).1
                    have hIYe : IY = K1 := by have h1 := (Prod.mk.inj hyx).2; have := hIY.out; have := hI2.out; have := hK1.out; have := hs1.out; omega
                    subst hY1 hIYe
                    clear hY hB hz hyx
                    go_wp2_with fail
                    refine Calls.mono kd.out ?_
                    rintro e w2 ⟨rfl, rfl⟩
                    go_wp2
                    go_meet
                    all_goals first | exact ⟨rfl, rfl, rfl⟩ | (refine ⟨?_, ?_, ?_⟩ <;> first | rfl | (congr 1; omega))
                · have e120 : ((C1 : Int) == 120) = false := by rw [beq_eq_false_iff_ne]; omega
                  have e88 : ((C1 : Int) == 88) = false := by rw [beq_eq_false_iff_ne]; omega
                  have e111 : ((C1 : Int) == 111) = false := by rw [beq_eq_false_iff_ne]; omega
                  have e79 : ((C1 : Int) == 79) = false := by rw [beq_eq_false_iff_ne]; omega
                  have e98 : ((C1 : Int) == 98) = false := by rw [beq_eq_false_iff_ne]; omega
                  have e66 : ((C1 : Int) == 66) = false := by rw [beq_eq_false_iff_ne]; omega
                  have hyx := based_dec L (.inr (by have h1 := hC1.out; omega))
                  rw [hY.out] at hyx
                  have hI2 : Hid (i = i) := rfl
                  have hd2 : L = l.drop i := hL.out
                  have hI2l : i ≤ l.length := by have := hI2.out; omega
                  have kd : Hid _ := digits_any w2 ad cap i 10 l hB.out (by omega) (by omega)
                  rw [digs10] at kd
                  have hs1 := spanL_le isDigitB (l.drop i)
                  rw [List.length_drop] at hs1
                  generalize hN1 : spanL isDigitB (l.drop i) = N1 at *
                  replace hs1 : Hid _ := hs1
                  replace hN1 : Hid _ := hN1
                  replace hd2 : Hid _ := hd2
                  obtain ⟨K1, hK1⟩ : ∃ K1, K1 = i + N1 := ⟨_, rfl⟩
                  replace hK1 : Hid _ := hK1
                  have hw3 : IntKind.i64.wrap ((i : Int) + (N1 : Int)) = ((K1 : Nat) : Int) := by have := hK1.out; have := hs1.out; rw [IntKind.wrap_i64]; omega
                  have hK1l : K1 ≤ l.length := by have := hK1.out; have := hs1.out; omega
                  have kak : Hid _ := at_any w2 ad cap K1 l hB.out (by omega) (by omega)
                  have hv2 : Hid _ := atv l K1
                  have hbd : Hid (byteAt (L) N1 = byteAt l K1) := by show _ = _; rw [hd2.out, byteAt_drop, hK1.out]
                  generalize (l.getD K1 0).toNat = AK at *
                  by_cases hdot : byteAt l K1 = 46
                  · have e46 : ((AK : Int) == 46) = true := by have := hv2.out; rw [beq_iff_eq]; omega
                    have hKlt : K1 < l.length := by
                      rcases Nat.lt_or_ge K1 l.length with h | h
                      · exact h
                      · exfalso
                        unfold byteAt at hdot
                        rw [List.drop_eq_nil_of_le h] at hdot
                        cases hdot
                    obtain ⟨K11, hK11⟩ : ∃ K11, K11 = K1 + 1 := ⟨_, rfl⟩
                    replace hK11 : Hid _ := hK11
                    have kd2 : Hid _ := digits_any w2 ad cap K11 10 l hB.out (by have := hK11.out; omega) (by omega)
                    rw [digs10] at kd2
                    have hs2 := spanL_le isDigitB (l.drop K11)
                    rw [List.length_drop] at hs2
                    have hd3 : Hid ((L).drop (N1 + 1) = l.drop K11) := by show _ = _; rw [hd2.out, List.drop_drop, hK11.out, hK1.out, Nat.add_assoc]
                    generalize hM1 : spanL isDigitB (l.drop K11) = M1 at *
                    replace hs2 : Hid _ := hs2
                    replace hM1 : Hid _ := hM1
                    obtain ⟨O1, hO1⟩ : ∃ O1, O1 = 1 + M1 := ⟨_, rfl⟩
                    replace hO1 : Hid _ := hO1
                    obtain ⟨K2, hK2⟩ : ∃ K2, K2 = K1 + O1 := ⟨_, rfl⟩
                    replace hK2 : Hid _ := hK2
                    have hw4 : IntKind.i64.wrap ((K1 : Int) + 1) = ((K11 : Nat) : Int) := by have := hK11.out; rw [IntKind.wrap_i64]; omega
                    have hw6 : IntKind.i64.wrap (1 + (M1 : Int)) = ((O1 : Nat) : Int) := by have := hO1.out; have := hs2.out; rw [IntKind.wrap_i64]; omega
                    have hK2l : K2 ≤ l.length := by have := hK11.out; have := hO1.out; have := hK2.out; have := hs2.out; omega
                    have hw7 : IntKind.i64.wrap ((K1 : Int) + (O1 : Int)) = ((K2 : Nat) : Int) := by have := hK2.out; rw [IntKind.wrap_i64]; omega
                    obtain ⟨MM, hMM⟩ : ∃ MM, MM = K2 - i := ⟨_, rfl⟩
                    replace hMM : Hid _ := hMM
                    have kex : Hid _ := exponent_at w2 ad cap i K2 l hB.out (by have := hI2.out; have := hK1.out; have := hK2.out; omega) (by omega) hl 101 69 (by decide) (by decide) (by decide)
                    rw [← hL.out, ← hMM.out] at kex
                    have hec := expR_cases L MM 101 69
                    have hyd := dec_dot L N1 M1 MM (by rw [hd2.out]; exact hN1.out) (by rw [hbd.out]; exact hdot) (by rw [hd3.out]; exact hM1.out) (by have := hI2.out; have := hK1.out; have := hK2.out; have := hO1.out; have := hMM.out; omega)
                    rw [hyd] at hyx
                    clear hyd hbd hd2 hd3 hN1 hM1 hv2 hdot hC0 hC1
                    generalize expR L MM 101 69 = EE at *
                    rcases hec with ⟨rfl, hne⟩ | ⟨rfl, hpe, hem⟩ | ⟨q, hq, rfl, hpe, hem⟩
                    · rw [if_neg hne] at hyx
                      clear hne
                      have hY1 : Y1 = 3 := (Prod.mk.inj hyx).1
                      have hIYe : IY = K2 := by have h1 := (Prod.mk.inj hyx).2; have := hIY.out; have := hMM.out; have := hI2.out; have := hK1.out; have := hK2.out; have := hO1.out; omega
                      subst hY1 hIYe
                      clear hY hB hz hyx
                      go_wp2_with fail
                      refine Calls.mono kd.out ?_
                      rintro e w2 ⟨rfl, rfl⟩
                      go_wp2_with fail
                      refine Calls.mono kak.out ?_
                      rintro e w2 ⟨rfl, rfl⟩
                      go_wp2_with fail
                      refine Calls.mono kd2.out ?_
                      rintro e w2 ⟨rfl, rfl⟩
                      go_wp2_with fail
                      refine Calls.mono kex.out ?_
                      rintro e w2 ⟨rfl, rfl⟩
                      go_wp2
                      go_meet
                      all_goals first | exact ⟨rfl, rfl, rfl⟩ | (refine ⟨?_, ?_, ?_⟩ <;> first | rfl | (congr 1; omega))
                    · rw [if_pos hpe, hem] at hyx
                      clear hpe hem
                      have hy2 : Y2 = 0 := by exact (Prod.mk.inj hyx).2
                      obtain rfl := hz.out hy2
                      clear hy2
                      clear hY hB hz hyx
                      go_wp2_with fail
                      refine Calls.mono kd.out ?_
                      rintro e w2 ⟨rfl, rfl⟩
                      go_wp2_with fail
                      refine Calls.mono kak.out ?_
                      rintro e w2 ⟨rfl, rfl⟩
                      go_wp2_with fail
                      refine Calls.mono kd2.out ?_
                      rintro e w2 ⟨rfl, rfl⟩
                      go_wp2_with fail
                      refine Calls.mono kex.out ?_
                      rintro e w2 ⟨rfl, rfl⟩
                      go_wp2
                      exact bodyPost_ret (v := .tuple #[.int .i64 0, .int .i64 0]) (by simp [results, Tryz.results29, go_sem]) rfl ⟨0, rfl, fun h => absurd rfl h, rfl⟩
                    · rw [if_pos hpe, hem] at hyx
                      clear hpe hem
                      have hYq : Hid (MM + q ≤ l.length) := by have h1 := (Prod.mk.inj hyx).2; have := hYl.out; show _ ≤ _; omega
                      obtain ⟨K3, hK3⟩ : ∃ K3, K3 = K2 + q := ⟨_, rfl⟩
                      replace hK3 : Hid _ := hK3
                      have hw8 : IntKind.i64.wrap ((K2 : Int) + (q : Int)) = ((K3 : Nat) : Int) := by have := hK3.out; have := hMM.out; have := hIY.out; have := hYq.out; rw [IntKind.wrap_i64]; omega
                      have dq1 : decide ((q : Int) < 0) = false := decide_eq_false (by omega)
                      have dq2 : ((q : Int) == 0) = false := by rw [beq_eq_false_iff_ne]; omega
                      have dq3 : decide ((q : Int) > 0) = true := decide_eq_true (by omega)
                      have hY1 : Y1 = 3 := (Prod.mk.inj hyx).1
                      have hIYe : IY = K3 := by have h1 := (Prod.mk.inj hyx).2; have := hIY.out; have := hK3.out; have := hMM.out; have := hI2.out; have := hK1.out; have := hK2.out; have := hO1.out; omega
                      subst hY1 hIYe
                      clear hY hB hz hyx
                      go_wp2_with fail
                      refine Calls.mono kd.out ?_
                      rintro e w2 ⟨rfl, rfl⟩
                      go_wp2_with fail
                      refine Calls.mono kak.out ?_
                      rintro e w2 ⟨rfl, rfl⟩
                      go_wp2_with fail
                      refine Calls.mono kd2.out ?_
                      rintro e w2 ⟨rfl, rfl⟩
                      go_wp2_with fail
                      refine Calls.mono kex.out ?_
                      rintro e w2 ⟨rfl, rfl⟩
                      go_wp2
                      go_meet
                      all_goals first | exact ⟨rfl, rfl, rfl⟩ | (refine ⟨?_, ?_, ?_⟩ <;> first | rfl | (congr 1; omega))
                  · have e46 : ((AK : Int) == 46) = false := by have := hv2.out; rw [beq_eq_false_iff_ne]; omega
                    obtain ⟨MM, hMM⟩ : ∃ MM, MM = K1 - i := ⟨_, rfl⟩
                    replace hMM : Hid _ := hMM
                    have kex : Hid _ := exponent_at w2 ad cap i K1 l hB.out (by have := hI2.out; have := hK1.out; omega) (by omega) hl 101 69 (by decide) (by decide) (by decide)
                    rw [← hL.out, ← hMM.out] at kex
                    have hec := expR_cases L MM 101 69
                    have hMN : MM = N1 := by have := hI2.out; have := hK1.out; have := hMM.out; omega
                    have hyd := dec_nodot L N1 (by rw [hd2.out]; exact hN1.out) (by rw [hbd.out]; exact hdot)
                    rw [hyd, ← hMN] at hyx
                    clear hyd hbd hd2 hN1 hv2 hdot
                    generalize expR L MM 101 69 = EE at *
                    rcases hec with ⟨rfl, hne⟩ | ⟨rfl, hpe, hem⟩ | ⟨q, hq, rfl, hpe, hem⟩
                    · rw [if_neg hne] at hyx
                      clear hne
                      have hb0 := hC0.out
                      by_cases hld : 1 < N1
                      · rw [if_pos ⟨by omega, hb0⟩] at hyx
                        have dl1 : decide ((N1 : Int) > 1) = true := decide_eq_true (by omega)
                        clear hb0 hC0 hC1
                        have hy2 : Y2 = 0 := by exact (Prod.mk.inj hyx).2
                        obtain rfl := hz.out hy2
                        clear hy2
                        clear hY hB hz hyx
                        go_wp2_with fail
                        refine Calls.mono kd.out ?_
                        rintro e w2 ⟨rfl, rfl⟩
                        go_wp2_with fail
                        refine Calls.mono kak.out ?_
                        rintro e w2 ⟨rfl, rfl⟩
                        go_wp2_with fail
                        refine Calls.mono kex.out ?_
                        rintro e w2 ⟨rfl, rfl⟩
                        go_wp2
                        exact bodyPost_ret (v := .tuple #[.int .i64 0, .int .i64 0]) (by simp [results, Tryz.results29, go_sem]) rfl ⟨0, rfl, fun h => absurd rfl h, rfl⟩
                      · rw [if_neg (fun h => hld (by omega))] at hyx
                        have dl1 : decide ((N1 : Int) > 1) = false := decide_eq_false (by omega)
                        clear hb0 hC0 hC1
                        have hY1 : Y1 = 2 := (Prod.mk.inj hyx).1
                        have hIYe : IY = K1 := by have h1 := (Prod.mk.inj hyx).2; have := hIY.out; have := hMM.out; have := hI2.out; have := hK1.out; omega
                        subst hY1 hIYe
                        clear hY hB hz hyx
                        go_wp2_with fail
                        refine Calls.mono kd.out ?_
                        rintro e w2 ⟨rfl, rfl⟩
                        go_wp2_with fail
                        refine Calls.mono kak.out ?_
                        rintro e w2 ⟨rfl, rfl⟩
                        go_wp2_with fail
                        refine Calls.mono kex.out ?_
                        rintro e w2 ⟨rfl, rfl⟩
                        go_wp2
                        go_meet
                        all_goals first | exact ⟨rfl, rfl, rfl⟩ | (refine ⟨?_, ?_, ?_⟩ <;> first | rfl | (congr 1; omega))
                    · rw [if_pos hpe, hem] at hyx
                      clear hpe hem hC0 hC1
                      have hy2 : Y2 = 0 := by exact (Prod.mk.inj hyx).2
                      obtain rfl := hz.out hy2
                      clear hy2
                      clear hY hB hz hyx
                      go_wp2_with fail
                      refine Calls.mono kd.out ?_
                      rintro e w2 ⟨rfl, rfl⟩
                      go_wp2_with fail
                      refine Calls.mono kak.out ?_
                      rintro e w2 ⟨rfl, rfl⟩
                      go_wp2_with fail
                      refine Calls.mono kex.out ?_
                      rintro e w2 ⟨rfl, rfl⟩
                      go_wp2
                      exact bodyPost_ret (v := .tuple #[.int .i64 0, .int .i64 0]) (by simp [results, Tryz.results29, go_sem]) rfl ⟨0, rfl, fun h => absurd rfl h, rfl⟩
                    · rw [if_pos hpe, hem] at hyx
                      clear hpe hem hC0 hC1
                      have hYq : Hid (MM + q ≤ l.length) := by have h1 := (Prod.mk.inj hyx).2; have := hYl.out; show _ ≤ _; omega
                      obtain ⟨K3, hK3⟩ : ∃ K3, K3 = K1 + q := ⟨_, rfl⟩
                      replace hK3 : Hid _ := hK3
                      have hw8 : IntKind.i64.wrap ((K1 : Int) + (q : Int)) = ((K3 : Nat) : Int) := by have := hK3.out; have := hMM.out; have := hIY.out; have := hYq.out; rw [IntKind.wrap_i64]; omega
                      have dq1 : decide ((q : Int) < 0) = false := decide_eq_false (by omega)
                      have dq2 : ((q : Int) == 0) = false := by rw [beq_eq_false_iff_ne]; omega
                      have dq3 : decide ((q : Int) > 0) = true := decide_eq_true (by omega)
                      have hY1 : Y1 = 3 := (Prod.mk.inj hyx).1
                      have hIYe : IY = K3 := by have h1 := (Prod.mk.inj hyx).2; have := hIY.out; have := hK3.out; have := hMM.out; have := hI2.out; have := hK1.out; omega
                      subst hY1 hIYe
                      clear hY hB hz hyx
                      go_wp2_with fail
                      refine Calls.mono kd.out ?_
                      rintro e w2 ⟨rfl, rfl⟩
                      go_wp2_with fail
                      refine Calls.mono kak.out ?_
                      rintro e w2 ⟨rfl, rfl⟩
                      go_wp2_with fail
                      refine Calls.mono kex.out ?_
                      rintro e w2 ⟨rfl, rfl⟩
                      go_wp2
                      go_meet
                      all_goals first | exact ⟨rfl, rfl, rfl⟩ | (refine ⟨?_, ?_, ?_⟩ <;> first | rfl | (congr 1; omega))
    · have e48 : ((C0 : Int) == 48) = false := by rw [beq_eq_false_iff_ne]; omega
      have hyx := based_dec L (.inl (by have h0 := hC0.out; omega))
      rw [hY.out] at hyx
      have hI2 : Hid (i = i) := rfl
      have hd2 : L = l.drop i := hL.out
      have hI2l : i ≤ l.length := by have := hI2.out; omega
      have kd : Hid _ := digits_any w2 ad cap i 10 l hB.out (by omega) (by omega)
      rw [digs10] at kd
      have hs1 := spanL_le isDigitB (l.drop i)
      rw [List.length_drop] at hs1
      generalize hN1 : spanL isDigitB (l.drop i) = N1 at *
      replace hs1 : Hid _ := hs1
      replace hN1 : Hid _ := hN1
      replace hd2 : Hid _ := hd2
      obtain ⟨K1, hK1⟩ : ∃ K1, K1 = i + N1 := ⟨_, rfl⟩
      replace hK1 : Hid _ := hK1
      have hw3 : IntKind.i64.wrap ((i : Int) + (N1 : Int)) = ((K1 : Nat) : Int) := by have := hK1.out; have := hs1.out; rw [IntKind.wrap_i64]; omega
      have hK1l : K1 ≤ l.length := by have := hK1.out; have := hs1.out; omega
      have kak : Hid _ := at_any w2 ad cap K1 l hB.out (by omega) (by omega)
      have hv2 : Hid _ := atv l K1
      have hbd : Hid (byteAt (L) N1 = byteAt l K1) := by show _ = _; rw [hd2.out, byteAt_drop, hK1.out]
      generalize (l.getD K1 0).toNat = AK at *
      by_cases hdot : byteAt l K1 = 46
      · have e46 : ((AK : Int) == 46) = true := by have := hv2.out; rw [beq_iff_eq]; omega
        have hKlt : K1 < l.length := by
          rcases Nat.lt_or_ge K1 l.length with h | h
          · exact h
          · exfalso
            unfold byteAt at hdot
            rw [List.drop_eq_nil_of_le h] at hdot
            cases hdot
        obtain ⟨K11, hK11⟩ : ∃ K11, K11 = K1 + 1 := ⟨_, rfl⟩
        replace hK11 : Hid _ := hK11
        have kd2 : Hid _ := digits_any w2 ad cap K11 10 l hB.out (by have := hK11.out; omega) (by omega)
        rw [digs10] at kd2
        have hs2 := spanL_le isDigitB (l.drop K11)
        rw [List.length_drop] at hs2
        have hd3 : Hid ((L).drop (N1 + 1) = l.drop K11) := by show _ = _; rw [hd2.out, List.drop_drop, hK11.out, hK1.out, Nat.add_assoc]
        generalize hM1 : spanL isDigitB (l.drop K11) = M1 at *
        replace hs2 : Hid _ := hs2
        replace hM1 : Hid _ := hM1
        obtain ⟨O1, hO1⟩ : ∃ O1, O1 = 1 + M1 := ⟨_, rfl⟩
        replace hO1 : Hid _ := hO1
        obtain ⟨K2, hK2⟩ : ∃ K2, K2 = K1 + O1 := ⟨_, rfl⟩
        replace hK2 : Hid _ := hK2
        have hw4 : IntKind.i64.wrap ((K1 : Int) + 1) = ((K11 : Nat) : Int) := by have := hK11.out; rw [IntKind.wrap_i64]; omega
        have hw6 : IntKind.i64.wrap (1 + (M1 : Int)) = ((O1 : Nat) : Int) := by have := hO1.out; have := hs2.out; rw [IntKind.wrap_i64]; omega
        have hK2l : K2 ≤ l.length := by have := hK11.out; have := hO1.out; have := hK2.out; have := hs2.out; omega
        have hw7 : IntKind.i64.wrap ((K1 : Int) + (O1 : Int)) = ((K2 : Nat) : Int) := by have := hK2.out; rw [IntKind.wrap_i64]; omega
        obtain ⟨MM, hMM⟩ : ∃ MM, MM = K2 - i := ⟨_, rfl⟩
        replace hMM : Hid _ := hMM
        have kex : Hid _ := exponent_at w2 ad cap i K2 l hB.out (by have := hI2.out; have := hK1.out; have := hK2.out; omega) (by omega) hl 101 69 (by decide) (by decide) (by decide)
        rw [← hL.out, ← hMM.out] at kex
        have hec := expR_cases L MM 101 69
        have hyd := dec_dot L N1 M1 MM (by rw [hd2.out]; exact hN1.out) (by rw [hbd.out]; exact hdot) (by rw [hd3.out]; exact hM1.out) (by have := hI2.out; have := hK1.out; have := hK2.out; have := hO1.out; have := hMM.out; omega)
        rw [hyd] at hyx
        clear hyd hbd hd2 hd3 hN1 hM1 hv2 hdot hC0 hC1
        generalize expR L MM 101 69 = EE at *
        rcases hec with ⟨rfl, hne⟩ | ⟨rfl, hpe, hem⟩ | ⟨q, hq, rfl, hpe, hem⟩
        · rw [if_neg hne] at hyx
          clear hne
          have hY1 : Y1 = 3 := (Prod.mk.inj hyx).1
          have hIYe : IY = K2 := by have h1 := (Prod.mk.inj hyx).2; have := hIY.out; have := hMM.out; have := hI2.out; have := hK1.out; have := hK2.out; have := hO1.out; omega
          subst hY1 hIYe
          clear hY hB hz hyx
          go_wp2_with fail
          refine Calls.mono kd.out ?_
          rintro e w2 ⟨rfl, rfl⟩
          go_wp2_with fail
          refine Calls.mono kak.out ?_
          rintro e w2 ⟨rfl, rfl⟩
          go_wp2_with fail
          refine Calls.mono kd2.out ?_
          rintro e w2 ⟨rfl, rfl⟩
          go_wp2_with fail
          refine Calls.mono kex.out ?_
          rintro e w2 ⟨rfl, rfl⟩
          go_wp2
          go_meet
          all_goals first | exact ⟨rfl, rfl, rfl⟩ | (refine ⟨?_, ?_, ?_⟩ <;> first | rfl | (congr 1; omega))
        · rw [if_pos hpe, hem] at hyx
          clear hpe hem
          have hy2 : Y2 = 0 := by exact (Prod.mk.inj hyx).2
          obtain rfl := hz.out hy2
          clear hy2
          clear hY hB hz hyx
          go_wp2_with fail
          refine Calls.mono kd.out ?_
          rintro e w2 ⟨rfl, rfl⟩
          go_wp2_with fail
          refine Calls.mono kak.out ?_
          rintro e w2 ⟨rfl, rfl⟩
          go_wp2_with fail
          refine Calls.mono kd2.out ?_
          rintro e w2 ⟨rfl, rfl⟩
          go_wp2_with fail
          refine Calls.mono kex.out ?_
          rintro e w2 ⟨rfl, rfl⟩
          go_wp2
          exact bodyPost_ret (v := .tuple #[.int .i64 0, .int .i64 0]) (by simp [results, Tryz.results29, go_sem]) rfl ⟨0, rfl, fun h => absurd rfl h, rfl⟩
        · rw [if_pos hpe, hem] at hyx
          clear hpe hem
          have hYq : Hid (MM + q ≤ l.length) := by have h1 := (Prod.mk.inj hyx).2; have := hYl.out; show _ ≤ _; omega
          obtain ⟨K3, hK3⟩ : ∃ K3, K3 = K2 + q := ⟨_, rfl⟩
          replace hK3 : Hid _ := hK3
          have hw8 : IntKind.i64.wrap ((K2 : Int) + (q : Int)) = ((K3 : Nat) : Int) := by have := hK3.out; have := hMM.out; have := hIY.out; have := hYq.out; rw [IntKind.wrap_i64]; omega
          have dq1 : decide ((q : Int) < 0) = false := decide_eq_false (by omega)
          have dq2 : ((q : Int) == 0) = false := by rw [beq_eq_false_iff_ne]; omega
          have dq3 : decide ((q : Int) > 0) = true := decide_eq_true (by omega)
          have hY1 : Y1 = 3 := (Prod.mk.inj hyx).1
          have hIYe : IY = K3 := by have h1 := (Prod.mk.inj hyx).2; have := hIY.out; have := hK3.out; have := hMM.out; have := hI2.out; have := hK1.out; have := hK2.out; have := hO1.out; omega
          subst hY1 hIYe
          clear hY hB hz hyx
          go_wp2_with fail
          refine Calls.mono kd.out ?_
          rintro e w2 ⟨rfl, rfl⟩
          go_wp2_with fail
          refine Calls.mono kak.out ?_
          rintro e w2 ⟨rfl, rfl⟩
          go_wp2_with fail
          refine Calls.mono kd2.out ?_
          rintro e w2 ⟨rfl, rfl⟩
          go_wp2_with fail
          refine Calls.mono kex.out ?_
          rintro e w2 ⟨rfl, rfl⟩
          go_wp2
          go_meet
          all_goals first | exact ⟨rfl, rfl, rfl⟩ | (refine ⟨?_, ?_, ?_⟩ <;> first | rfl | (congr 1; omega))
      · have e46 : ((AK : Int) == 46) = false := by have := hv2.out; rw [beq_eq_false_iff_ne]; omega
        obtain ⟨MM, hMM⟩ : ∃ MM, MM = K1 - i := ⟨_, rfl⟩
        replace hMM : Hid _ := hMM
        have kex : Hid _ := exponent_at w2 ad cap i K1 l hB.out (by have := hI2.out; have := hK1.out; omega) (by omega) hl 101 69 (by decide) (by decide) (by decide)
        rw [← hL.out, ← hMM.out] at kex
        have hec := expR_cases L MM 101 69
        have hMN : MM = N1 := by have := hI2.out; have := hK1.out; have := hMM.out; omega
        have hyd := dec_nodot L N1 (by rw [hd2.out]; exact hN1.out) (by rw [hbd.out]; exact hdot)
        rw [hyd, ← hMN] at hyx
        clear hyd hbd hd2 hN1 hv2 hdot
        generalize expR L MM 101 69 = EE at *
        rcases hec with ⟨rfl, hne⟩ | ⟨rfl, hpe, hem⟩ | ⟨q, hq, rfl, hpe, hem⟩
        · rw [if_neg hne] at hyx
          clear hne
          have hb0 := hC0.out
          rw [if_neg (fun h => hx0 (by have := h.2; omega))] at hyx
          clear hb0 hC0 hC1
          by_cases hld : 1 < N1
          · have dl1 : decide ((N1 : Int) > 1) = true := decide_eq_true (by omega)
            have hY1 : Y1 = 2 := (Prod.mk.inj hyx).1
            have hIYe : IY = K1 := by have h1 := (Prod.mk.inj hyx).2; have := hIY.out; have := hMM.out; have := hI2.out; have := hK1.out; omega
            subst hY1 hIYe
            clear hY hB hz hyx
            go_wp2_with fail
            refine Calls.mono kd.out ?_
            rintro e w2 ⟨rfl, rfl⟩
            go_wp2_with fail
            refine Calls.mono kak.out ?_
            rintro e w2 ⟨rfl, rfl⟩
            go_wp2_with fail
            refine Calls.mono kex.out ?_
            rintro e w2 ⟨rfl, rfl⟩
            go_wp2
            go_meet
            all_goals first | exact ⟨rfl, rfl, rfl⟩ | (refine ⟨?_, ?_, ?_⟩ <;> first | rfl | (congr 1; omega))
          · have dl1 : decide ((N1 : Int) > 1) = false := decide_eq_false (by omega)
            have hY1 : Y1 = 2 := (Prod.mk.inj hyx).1
            have hIYe : IY = K1 := by have h1 := (Prod.mk.inj hyx).2; have := hIY.out; have := hMM.out; have := hI2.out; have := hK1.out; omega
            subst hY1 hIYe
            clear hY hB hz hyx
            go_wp2_with fail
            refine Calls.mono kd.out ?_
            rintro e w2 ⟨rfl, rfl⟩
            go_wp2_with fail
            refine Calls.mono kak.out ?_
            rintro e w2 ⟨rfl, rfl⟩
            go_wp2_with fail
            refine Calls.mono kex.out ?_
            rintro e w2 ⟨rfl, rfl⟩
            go_wp2
            go_meet
            all_goals first | exact ⟨rfl, rfl, rfl⟩ | (refine ⟨?_, ?_, ?_⟩ <;> first | rfl | (congr 1; omega))
        · rw [if_pos hpe, hem] at hyx
          clear hpe hem hC0 hC1
          have hy2 : Y2 = 0 := by exact (Prod.mk.inj hyx).2
          obtain rfl := hz.out hy2
          clear hy2
          clear hY hB hz hyx
          go_wp2_with fail
          refine Calls.mono kd.out ?_
          rintro e w2 ⟨rfl, rfl⟩
          go_wp2_with fail
          refine Calls.mono kak.out ?_
          rintro e w2 ⟨rfl, rfl⟩
          go_wp2_with fail
          refine Calls.mono kex.out ?_
          rintro e w2 ⟨rfl, rfl⟩
          go_wp2
          exact bodyPost_ret (v := .tuple #[.int .i64 0, .int .i64 0]) (by simp [results, Tryz.results29, go_sem]) rfl ⟨0, rfl, fun h => absurd rfl h, rfl⟩
        · rw [if_pos hpe, hem] at hyx
          clear hpe hem hC0 hC1
          have hYq : Hid (MM + q ≤ l.length) := by have h1 := (Prod.mk.inj hyx).2; have := hYl.out; show _ ≤ _; omega
          obtain ⟨K3, hK3⟩ : ∃ K3, K3 = K1 + q := ⟨_, rfl⟩
          replace hK3 : Hid _ := hK3
          have hw8 : IntKind.i64.wrap ((K1 : Int) + (q : Int)) = ((K3 : Nat) : Int) := by have := hK3.out; have := hMM.out; have := hIY.out; have := hYq.out; rw [IntKind.wrap_i64]; omega
          have dq1 : decide ((q : Int) < 0) = false := decide_eq_false (by omega)
          have dq2 : ((q : Int) == 0) = false := by rw [beq_eq_false_iff_ne]; omega
          have dq3 : decide ((q : Int) > 0) = true := decide_eq_true (by omega)
          have hY1 : Y1 = 3 := (Prod.mk.inj hyx).1
          have hIYe : IY = K3 := by have h1 := (Prod.mk.inj hyx).2; have := hIY.out; have := hK3.out; have := hMM.out; have := hI2.out; have := hK1.out; omega
          subst hY1 hIYe
          clear hY hB hz hyx
          go_wp2_with fail
          refine Calls.mono kd.out ?_
          rintro e w2 ⟨rfl, rfl⟩
          go_wp2_with fail
          refine Calls.mono kak.out ?_
          rintro e w2 ⟨rfl, rfl⟩
          go_wp2_with fail
          refine Calls.mono kex.out ?_
          rintro e w2 ⟨rfl, rfl⟩
          go_wp2
          go_meet
          all_goals first | exact ⟨rfl, rfl, rfl⟩ | (refine ⟨?_, ?_, ?_⟩ <;> first | rfl | (congr 1; omega))
end Go.Proofs.YtfbacidpjpghiaaGreatDoor
