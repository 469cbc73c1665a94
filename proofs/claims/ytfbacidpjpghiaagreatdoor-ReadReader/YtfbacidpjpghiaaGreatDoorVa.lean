/- scan, the second road: letters, digits, exponents. -/
import Derived.Test.YtfbacidpjpghiaaGreatDoorTh
import Derived.Test.YtfbacidpjpghiaaGreatDoorSgm
namespace Go.Proofs.YtfbacidpjpghiaaGreatDoor
open Go.RowKit
attribute [local go_sem ↓] Go.wp_at_zero Go.wp_at_succ
set_option maxRecDepth 20000 in
theorem letter_any (c : Nat) (w : World) : Calls Tryz.prog 26 #[.int .u8 c] w fun e w' => e = .returned (.bool (isLetterB (c : Int))) ∧ w' = w := by
  go_enter Tryz.func26, Tryz.ntmps26
  go_wp2
  all_goals go_ret
  all_goals refine ⟨congrArg (fun b => Ending.returned (.bool b)) ?_, rfl⟩
  all_goals rw [Bool.eq_iff_iff]
  all_goals simp [isLetterB]
  all_goals omega
set_option maxRecDepth 20000 in
theorem digit_any (c : Nat) (w : World) : Calls Tryz.prog 27 #[.int .u8 c] w fun e w' => e = .returned (.bool (isDigitB (c : Int))) ∧ w' = w := by
  go_enter Tryz.func27, Tryz.ntmps27
  go_wp2
  all_goals go_ret
  all_goals refine ⟨congrArg (fun b => Ending.returned (.bool b)) ?_, rfl⟩
  all_goals rw [Bool.eq_iff_iff]
  all_goals simp [isDigitB]
  all_goals omega
theorem atv (l : List UInt8) (k : Nat) : (((l.getD k 0).toNat : Nat) : Int) = byteAt l k ∨ (byteAt l k = -1 ∧ (l.getD k 0).toNat = 0) := by
  rcases Nat.lt_or_ge k l.length with h | h
  · exact .inl (byteAt_get l k h).symm
  · refine .inr ⟨by unfold byteAt; rw [List.drop_eq_nil_of_le h], ?_⟩
    rw [List.getD_eq_getElem?_getD, List.getElem?_eq_none h]; rfl
theorem digs_span (B : Int) (p : Int → Bool) (h : ∀ c : Fin 256, (digN c.val < 0 ∨ B ≤ digN c.val) ↔ p ((c.val : Nat) : Int) = false) (l : List UInt8) : digsL B l = spanL p l := by
  induction l with
  | nil => rfl
  | cons c l ih =>
    have hc := h ⟨c.toNat, c.toNat_lt⟩
    unfold digsL spanL
    by_cases hp : p ((c.toNat : Nat) : Int) = true
    · rw [if_pos hp, if_neg (fun h2 => by have := hc.1 h2; simp only at this; rw [hp] at this; cases this), ih]
    · rw [if_neg hp, if_pos (hc.2 (by simpa using hp))]
theorem digs16 (l : List UInt8) : digsL 16 l = spanL isHexB l := digs_span 16 isHexB (by decide +kernel) l
theorem digs10 (l : List UInt8) : digsL 10 l = spanL isDigitB l := digs_span 10 isDigitB (by decide +kernel) l
theorem digs8 (l : List UInt8) : digsL 8 l = spanL isOctalB l := digs_span 8 isOctalB (by decide +kernel) l
theorem digs2 (l : List UInt8) : digsL 2 l = spanL isBinaryB l := digs_span 2 isBinaryB (by decide +kernel) l
theorem take_step (l : List UInt8) (K N a : Nat) (ha : a < N) (h : K + N ≤ l.length) : ((l.drop K).take N).drop a = (l.getD (K + a) 0) :: ((l.drop K).take N).drop (a + 1) := by
  have hlt : a < ((l.drop K).take N).length := by rw [List.length_take, List.length_drop]; omega
  have hk : K + a < l.length := by omega
  rw [List.drop_eq_getElem_cons hlt]
  congr 1
  rw [List.getElem_take, List.getElem_drop]
  simp [List.getD, List.getElem?_eq_getElem hk]
/-- What exponent answers, at place m of L. -/
def expR (L : List UInt8) (m : Nat) (s g : Int) : Int := if byteAt L m ≠ s ∧ byteAt L m ≠ g then 0 else if expM L m = 0 then -1 else ((expM L m - m : Nat) : Int)
set_option maxRecDepth 100000 in
set_option maxHeartbeats 16000000 in
theorem exponent_any (w : World) (ad : Addr) (cap i m : Nat) (l : List UInt8) (hB : BytesAt w ad l) (hi : i + m ≤ l.length) (hl : l.length < 1000000) (s g : Nat) (hs0 : 0 < s) (hg0 : 0 < g) (_hsg : s ≠ g) : Calls Tryz.prog 44 #[.slice (some ad) l.length cap, .int .i64 ((i + m : Nat) : Int), .int .u8 s, .int .u8 g] w fun e w' => e = .returned (.int .i64 (expR (l.drop i) m s g)) ∧ w' = w := by
  obtain ⟨R, hR⟩ : ∃ R, R = expR (l.drop i) m s g := ⟨_, rfl⟩
  rw [← hR]
  unfold expR at hR
  rw [byteAt_drop] at hR
  have ka : Hid _ := at_any w ad cap (i + m) l hB (by omega) (by omega)
  have hv := atv l (i + m)
  generalize hA : (l.getD (i + m) 0).toNat = A at *
  have hw1 : IntKind.i64.wrap (((i + m : Nat) : Int) + 1) = ((i + m + 1 : Nat) : Int) := by rw [IntKind.wrap_i64]; omega
  have hBh : Hid _ := hB
  clear hB
  by_cases hn : byteAt l (i + m) ≠ s ∧ byteAt l (i + m) ≠ g
  · rw [if_pos hn] at hR
    subst hR
    have e1 : ((A : Int) != s) = true := by simp; omega
    have e2 : ((A : Int) != g) = true := by simp; omega
    clear hn hv hA hBh hw1
    generalize i + m = P at *
    go_enter Tryz.func44, Tryz.ntmps44
    go_wp2_with fail
    refine Calls.mono ka.out ?_
    rintro e w2 ⟨rfl, rfl⟩
    go_wp2_with fail
    refine Calls.mono ka.out ?_
    rintro e w2 ⟨rfl, rfl⟩
    go_wp2
    go_ret
    exact ⟨rfl, rfl⟩
  · rw [if_neg hn] at hR
    have ka1 : Hid _ := at_any w ad cap (i + m + 1) l hBh.out (by omega) (by omega)
    have hv1 := atv l (i + m + 1)
    have hE : expAt (l.drop i) m = if byteAt l (i + m + 1) = 43 ∨ byteAt l (i + m + 1) = 45 then m + 1 + 1 else m + 1 := by
      unfold expAt
      rw [byteAt_drop, ← Nat.add_assoc i m 1]
    generalize hA1 : (l.getD (i + m + 1) 0).toNat = A1 at *
    generalize hEe : expAt (l.drop i) m = E at *
    unfold expM at hR
    rw [hEe] at hR
    have hEm : m + 1 ≤ E ∧ E ≤ m + 2 := by rw [hE]; split <;> omega
    have kd : Hid _ := digits_any w ad cap (i + E) 10 l hBh.out (by omega) (by omega)
    have hdd : l.drop (i + E) = (l.drop i).drop E := by rw [List.drop_drop]
    rw [digs10] at kd
    have hsl := spanL_le isDigitB (l.drop (i + E))
    rw [List.length_drop] at hsl
    rw [← hdd] at hR
    have htk : ((l.drop i).take (E + spanL isDigitB (l.drop (i + E)))).drop E = (l.drop (i + E)).take (spanL isDigitB (l.drop (i + E))) := by
      rw [List.drop_take, List.drop_drop, Nat.add_sub_cancel_left]
    rw [htk] at hR
    generalize hN : spanL isDigitB (l.drop (i + E)) = N at *
    have hF0 : Hid (fitsGo 0 ((l.drop (i + E)).take N) = fitsGo 0 (((l.drop (i + E)).take N).drop 0)) := rfl
    generalize hFF : fitsGo 0 ((l.drop (i + E)).take N) = FF at *
    have hR0 : N = 0 → R = -1 := fun h => by rw [hR, if_pos (by rw [if_pos (.inl h)])]
    have hR1 : FF = false → R = -1 := fun h => by rw [hR, if_pos (by rw [if_pos (.inr h)])]
    have hR2 : N ≠ 0 → FF = true → R = ((E + N - m : Nat) : Int) := fun h1 h2 => by
      have hc : ¬ (N = 0 ∨ FF = false) := by rw [h2]; simp; exact h1
      rw [hR, if_neg hc, if_neg (by omega)]
    replace hR0 : Hid _ := hR0
    replace hR1 : Hid _ := hR1
    replace hR2 : Hid _ := hR2
    obtain ⟨K, hK⟩ : ∃ K, K = i + E := ⟨_, rfl⟩
    rw [← hK] at kd hF0 hFF hsl
    obtain ⟨Q, hQ⟩ : ∃ Q, Q = i + m + 1 := ⟨_, rfl⟩
    rw [← hQ] at hw1 ka1 hv1 hE
    obtain ⟨P, hP⟩ : ∃ P, P = i + m := ⟨_, rfl⟩
    rw [← hP] at hw1 ka hv hn ⊢
    have hPl : P ≤ l.length := by omega
    replace hFF : Hid _ := hFF
    clear hR htk hdd hN hA hA1 hEe hF0
    replace hv1 : Hid _ := hv1
    replace hE : Hid _ := hE
    have hX : Hid (K = i + E ∧ Q = i + m + 1 ∧ P = i + m) := ⟨hK, hQ, hP⟩
    clear hK hQ hP
    replace hsl : Hid _ := hsl
    by_cases hsm : byteAt l P = s
    · have e1 : ((A : Int) != s) = false := by simp; omega
      clear hsm hv hn
      go_enter Tryz.func44, Tryz.ntmps44
      go_wp2_with fail
      refine Calls.mono ka.out ?_
      rintro e w2 ⟨rfl, rfl⟩
      clear ka
      by_cases hsg1 : byteAt l Q = 43
      · have hv1' := hv1.out
        have hE' := hE.out
        clear hv1 hE
        have e3 : ((A1 : Int) == 43) = true := by rw [beq_iff_eq]; omega
        rw [if_pos (.inl hsg1)] at hE'
        have hw2 : IntKind.i64.wrap ((Q : Int) + 1) = (K : Int) := by
          obtain ⟨_, _, _⟩ := hX.out
          rw [IntKind.wrap_i64]; omega
        clear hv1' hsg1 hE'
        go_wp2_with fail
        refine Calls.mono ka1.out ?_
        rintro e w2 ⟨rfl, rfl⟩
        go_wp2_with fail
        refine Calls.mono kd.out ?_
        rintro e w2 ⟨rfl, rfl⟩
        clear kd ka1
        by_cases hN0 : N = 0
        · obtain rfl := hR0.out hN0
          subst hN0
          clear hR0 hR1 hR2 hBh hFF
          go_wp2
          go_ret
          exact ⟨rfl, rfl⟩
        · have dN : ((N : Int) == 0) = false := by rw [beq_eq_false_iff_ne]; omega
          have hsz : K + N ≤ l.length := by have := hsl.out; omega
          have hwN : IntKind.i64.wrap ((K : Int) + (N : Int)) = ((K + N : Nat) : Int) := by rw [IntKind.wrap_i64]; omega
          clear hR0
          go_wp2
          go_loop [11, 12] (fun vv vj => ∃ x a : Nat, vv = .int .i64 x ∧ vj = .int .i64 ((K + a : Nat) : Int) ∧ x ≤ 999 ∧ a ≤ N ∧ Hid (FF = fitsGo x (((l.drop K).take N).drop a))) (fun _ vj => K + N - (intOf vj).toNat)
          case atStart => exact ⟨0, 0, rfl, rfl, by decide, Nat.zero_le _, by rw [List.drop_zero]; exact hFF.out.symm⟩
          case round =>
            obtain ⟨x, a, rfl, rfl, hx, ha, hI⟩ := hrel
            have hI' := hI.out
            clear hI hFF
            by_cases hlt : a < N
            · have d1 : decide (((K + a : Nat) : Int) < ((K + N : Nat) : Int)) = true := decide_eq_true (by omega)
              rw [take_step l K N a hlt (by omega)] at hI'
              have hc := hBh.out (K + a) (by omega)
              have hc256 : (l.getD (K + a) 0).toNat < 256 := UInt8.toNat_lt _
              unfold fitsGo at hI'
              generalize (l.getD (K + a) 0).toNat = C at *
              have hwu : IntKind.u8.wrap ((C : Int) - 48) = (((C + 208) % 256 : Nat) : Int) := by rw [IntKind.wrap_u8]; omega
              have hd256 : (C + 208) % 256 < 256 := Nat.mod_lt _ (by decide)
              generalize (C + 208) % 256 = DD at *
              have hw5 : IntKind.i64.wrap (10 * (x : Int) + (DD : Int)) = 10 * (x : Int) + (DD : Int) := by rw [IntKind.wrap_i64]; omega
              have hKl : K + a < l.length := by omega
              have hKa : K + a + 1 ≤ K + N := by omega
              have hKn : K + a < K + N := by omega
              have hw6 : IntKind.i64.wrap (((K + a : Nat) : Int) + 1) = ((K + a + 1 : Nat) : Int) := by rw [IntKind.wrap_i64]; omega
              by_cases hgt : 999 < 10 * x + DD
              · rw [if_pos hgt] at hI'
                have d2 : decide (10 * (x : Int) + (DD : Int) > 999) = true := decide_eq_true (by omega)
                obtain rfl := hR1.out hI'
                clear hR1 hR2 hI' hBh
                generalize K + a = KA at *
                generalize K + N = KN at *
                go_wp2
                go_ret
                exact ⟨rfl, rfl⟩
              · rw [if_neg hgt] at hI'
                have d2 : decide (10 * (x : Int) + (DD : Int) > 999) = false := decide_eq_false (by omega)
                have hI2 : Hid _ := hI'
                have hrel2 : Hid (∀ v : Int, v = ((K + a + 1 : Nat) : Int) → ∃ x' a' : Nat, Value.int .i64 (10 * (x : Int) + (DD : Int)) = .int .i64 x' ∧ Value.int .i64 v = .int .i64 ((K + a' : Nat) : Int) ∧ x' ≤ 999 ∧ a' ≤ N ∧ Hid (FF = fitsGo x' (((l.drop K).take N).drop a'))) := by
                  intro v hv
                  exact ⟨10 * x + DD, a + 1, by congr 1, by rw [hv]; rfl, by omega, by omega, hI2.out⟩
                have hms : Hid (K + N - (K + a + 1) < K + N - (K + a)) := by show _ < _; omega
                clear hR1 hR2 hI' hBh hI2
                generalize K + a + 1 = KB at *
                generalize K + a = KA at *
                generalize K + N = KN at *
                go_wp2
                refine ⟨hrel2.out _ (by first | rfl | omega), by simp [intOf]; first | exact hms.out | omega⟩
            · obtain rfl : a = N := by omega
              have d1 : decide (((K + a : Nat) : Int) < ((K + a : Nat) : Int)) = false := decide_eq_false (by omega)
              have hnil : ((l.drop K).take a).drop a = [] := List.drop_eq_nil_of_le (by rw [List.length_take]; omega)
              rw [hnil] at hI'
              have hRv := hR2.out hN0 hI'
              have hw7 : IntKind.i64.wrap (((K + a : Nat) : Int) - (P : Int)) = R := by
                obtain ⟨_, _, _⟩ := hX.out
                rw [hRv, IntKind.wrap_i64]; omega
              clear hR1 hR2 hI' hBh hnil hRv
              generalize K + a = KN at *
              go_wp2
              go_ret
              exact ⟨rfl, rfl⟩
      · by_cases hsg2 : byteAt l Q = 45
        · have hv1' := hv1.out
          have hE' := hE.out
          clear hv1 hE
          have e3 : ((A1 : Int) == 43) = false := by rw [beq_eq_false_iff_ne]; omega
          have e4 : ((A1 : Int) == 45) = true := by rw [beq_iff_eq]; omega
          rw [if_pos (.inr hsg2)] at hE'
          have hw2 : IntKind.i64.wrap ((Q : Int) + 1) = (K : Int) := by
            obtain ⟨_, _, _⟩ := hX.out
            rw [IntKind.wrap_i64]; omega
          clear hv1' hsg1 hsg2 hE'
          go_wp2_with fail
          refine Calls.mono ka1.out ?_
          rintro e w2 ⟨rfl, rfl⟩
          go_wp2_with fail
          refine Calls.mono ka1.out ?_
          rintro e w2 ⟨rfl, rfl⟩
          go_wp2_with fail
          refine Calls.mono kd.out ?_
          rintro e w2 ⟨rfl, rfl⟩
          clear kd ka1
          by_cases hN0 : N = 0
          · obtain rfl := hR0.out hN0
            subst hN0
            clear hR0 hR1 hR2 hBh hFF
            go_wp2
            go_ret
            exact ⟨rfl, rfl⟩
          · have dN : ((N : Int) == 0) = false := by rw [beq_eq_false_iff_ne]; omega
            have hsz : K + N ≤ l.length := by have := hsl.out; omega
            have hwN : IntKind.i64.wrap ((K : Int) + (N : Int)) = ((K + N : Nat) : Int) := by rw [IntKind.wrap_i64]; omega
            clear hR0
            go_wp2
            go_loop [11, 12] (fun vv vj => ∃ x a : Nat, vv = .int .i64 x ∧ vj = .int .i64 ((K + a : Nat) : Int) ∧ x ≤ 999 ∧ a ≤ N ∧ Hid (FF = fitsGo x (((l.drop K).take N).drop a))) (fun _ vj => K + N - (intOf vj).toNat)
            case atStart => exact ⟨0, 0, rfl, rfl, by decide, Nat.zero_le _, by rw [List.drop_zero]; exact hFF.out.symm⟩
            case round =>
              obtain ⟨x, a, rfl, rfl, hx, ha, hI⟩ := hrel
              have hI' := hI.out
              clear hI hFF
              by_cases hlt : a < N
              · have d1 : decide (((K + a : Nat) : Int) < ((K + N : Nat) : Int)) = true := decide_eq_true (by omega)
                rw [take_step l K N a hlt (by omega)] at hI'
                have hc := hBh.out (K + a) (by omega)
                have hc256 : (l.getD (K + a) 0).toNat < 256 := UInt8.toNat_lt _
                unfold fitsGo at hI'
                generalize (l.getD (K + a) 0).toNat = C at *
                have hwu : IntKind.u8.wrap ((C : Int) - 48) = (((C + 208) % 256 : Nat) : Int) := by rw [IntKind.wrap_u8]; omega
                have hd256 : (C + 208) % 256 < 256 := Nat.mod_lt _ (by decide)
                generalize (C + 208) % 256 = DD at *
                have hw5 : IntKind.i64.wrap (10 * (x : Int) + (DD : Int)) = 10 * (x : Int) + (DD : Int) := by rw [IntKind.wrap_i64]; omega
                have hKl : K + a < l.length := by omega
                have hKa : K + a + 1 ≤ K + N := by omega
                have hKn : K + a < K + N := by omega
                have hw6 : IntKind.i64.wrap (((K + a : Nat) : Int) + 1) = ((K + a + 1 : Nat) : Int) := by rw [IntKind.wrap_i64]; omega
                by_cases hgt : 999 < 10 * x + DD
                · rw [if_pos hgt] at hI'
                  have d2 : decide (10 * (x : Int) + (DD : Int) > 999) = true := decide_eq_true (by omega)
                  obtain rfl := hR1.out hI'
                  clear hR1 hR2 hI' hBh
                  generalize K + a = KA at *
                  generalize K + N = KN at *
                  go_wp2
                  go_ret
                  exact ⟨rfl, rfl⟩
                · rw [if_neg hgt] at hI'
                  have d2 : decide (10 * (x : Int) + (DD : Int) > 999) = false := decide_eq_false (by omega)
                  have hI2 : Hid _ := hI'
                  have hrel2 : Hid (∀ v : Int, v = ((K + a + 1 : Nat) : Int) → ∃ x' a' : Nat, Value.int .i64 (10 * (x : Int) + (DD : Int)) = .int .i64 x' ∧ Value.int .i64 v = .int .i64 ((K + a' : Nat) : Int) ∧ x' ≤ 999 ∧ a' ≤ N ∧ Hid (FF = fitsGo x' (((l.drop K).take N).drop a'))) := by
                    intro v hv
                    exact ⟨10 * x + DD, a + 1, by congr 1, by rw [hv]; rfl, by omega, by omega, hI2.out⟩
                  have hms : Hid (K + N - (K + a + 1) < K + N - (K + a)) := by show _ < _; omega
                  clear hR1 hR2 hI' hBh hI2
                  generalize K + a + 1 = KB at *
                  generalize K + a = KA at *
                  generalize K + N = KN at *
                  go_wp2
                  refine ⟨hrel2.out _ (by first | rfl | omega), by simp [intOf]; first | exact hms.out | omega⟩
              · obtain rfl : a = N := by omega
                have d1 : decide (((K + a : Nat) : Int) < ((K + a : Nat) : Int)) = false := decide_eq_false (by omega)
                have hnil : ((l.drop K).take a).drop a = [] := List.drop_eq_nil_of_le (by rw [List.length_take]; omega)
                rw [hnil] at hI'
                have hRv := hR2.out hN0 hI'
                have hw7 : IntKind.i64.wrap (((K + a : Nat) : Int) - (P : Int)) = R := by
                  obtain ⟨_, _, _⟩ := hX.out
                  rw [hRv, IntKind.wrap_i64]; omega
                clear hR1 hR2 hI' hBh hnil hRv
                generalize K + a = KN at *
                go_wp2
                go_ret
                exact ⟨rfl, rfl⟩
        · have hv1' := hv1.out
          have hE' := hE.out
          clear hv1 hE
          have e3 : ((A1 : Int) == 43) = false := by rw [beq_eq_false_iff_ne]; omega
          have e4 : ((A1 : Int) == 45) = false := by rw [beq_eq_false_iff_ne]; omega
          rw [if_neg (fun h => h.elim hsg1 hsg2)] at hE'
          obtain rfl : K = Q := by
            obtain ⟨_, _, _⟩ := hX.out
            omega
          clear hv1' hsg1 hsg2 hE'
          go_wp2_with fail
          refine Calls.mono ka1.out ?_
          rintro e w2 ⟨rfl, rfl⟩
          go_wp2_with fail
          refine Calls.mono ka1.out ?_
          rintro e w2 ⟨rfl, rfl⟩
          go_wp2_with fail
          refine Calls.mono kd.out ?_
          rintro e w2 ⟨rfl, rfl⟩
          clear kd ka1
          by_cases hN0 : N = 0
          · obtain rfl := hR0.out hN0
            subst hN0
            clear hR0 hR1 hR2 hBh hFF
            go_wp2
            go_ret
            exact ⟨rfl, rfl⟩
          · have dN : ((N : Int) == 0) = false := by rw [beq_eq_false_iff_ne]; omega
            have hsz : K + N ≤ l.length := by have := hsl.out; omega
            have hwN : IntKind.i64.wrap ((K : Int) + (N : Int)) = ((K + N : Nat) : Int) := by rw [IntKind.wrap_i64]; omega
            clear hR0
            go_wp2
            go_loop [11, 12] (fun vv vj => ∃ x a : Nat, vv = .int .i64 x ∧ vj = .int .i64 ((K + a : Nat) : Int) ∧ x ≤ 999 ∧ a ≤ N ∧ Hid (FF = fitsGo x (((l.drop K).take N).drop a))) (fun _ vj => K + N - (intOf vj).toNat)
            case atStart => exact ⟨0, 0, rfl, rfl, by decide, Nat.zero_le _, by rw [List.drop_zero]; exact hFF.out.symm⟩
            case round =>
              obtain ⟨x, a, rfl, rfl, hx, ha, hI⟩ := hrel
              have hI' := hI.out
              clear hI hFF
              by_cases hlt : a < N
              · have d1 : decide (((K + a : Nat) : Int) < ((K + N : Nat) : Int)) = true := decide_eq_true (by omega)
                rw [take_step l K N a hlt (by omega)] at hI'
                have hc := hBh.out (K + a) (by omega)
                have hc256 : (l.getD (K + a) 0).toNat < 256 := UInt8.toNat_lt _
                unfold fitsGo at hI'
                generalize (l.getD (K + a) 0).toNat = C at *
                have hwu : IntKind.u8.wrap ((C : Int) - 48) = (((C + 208) % 256 : Nat) : Int) := by rw [IntKind.wrap_u8]; omega
                have hd256 : (C + 208) % 256 < 256 := Nat.mod_lt _ (by decide)
                generalize (C + 208) % 256 = DD at *
                have hw5 : IntKind.i64.wrap (10 * (x : Int) + (DD : Int)) = 10 * (x : Int) + (DD : Int) := by rw [IntKind.wrap_i64]; omega
                have hKl : K + a < l.length := by omega
                have hKa : K + a + 1 ≤ K + N := by omega
                have hKn : K + a < K + N := by omega
                have hw6 : IntKind.i64.wrap (((K + a : Nat) : Int) + 1) = ((K + a + 1 : Nat) : Int) := by rw [IntKind.wrap_i64]; omega
                by_cases hgt : 999 < 10 * x + DD
                · rw [if_pos hgt] at hI'
                  have d2 : decide (10 * (x : Int) + (DD : Int) > 999) = true := decide_eq_true (by omega)
                  obtain rfl := hR1.out hI'
                  clear hR1 hR2 hI' hBh
                  generalize K + a = KA at *
                  generalize K + N = KN at *
                  go_wp2
                  go_ret
                  exact ⟨rfl, rfl⟩
                · rw [if_neg hgt] at hI'
                  have d2 : decide (10 * (x : Int) + (DD : Int) > 999) = false := decide_eq_false (by omega)
                  have hI2 : Hid _ := hI'
                  have hrel2 : Hid (∀ v : Int, v = ((K + a + 1 : Nat) : Int) → ∃ x' a' : Nat, Value.int .i64 (10 * (x : Int) + (DD : Int)) = .int .i64 x' ∧ Value.int .i64 v = .int .i64 ((K + a' : Nat) : Int) ∧ x' ≤ 999 ∧ a' ≤ N ∧ Hid (FF = fitsGo x' (((l.drop K).take N).drop a'))) := by
                    intro v hv
                    exact ⟨10 * x + DD, a + 1, by congr 1, by rw [hv]; rfl, by omega, by omega, hI2.out⟩
                  have hms : Hid (K + N - (K + a + 1) < K + N - (K + a)) := by show _ < _; omega
                  clear hR1 hR2 hI' hBh hI2
                  generalize K + a + 1 = KB at *
                  generalize K + a = KA at *
                  generalize K + N = KN at *
                  go_wp2
                  refine ⟨hrel2.out _ (by first | rfl | omega), by simp [intOf]; first | exact hms.out | omega⟩
              · obtain rfl : a = N := by omega
                have d1 : decide (((K + a : Nat) : Int) < ((K + a : Nat) : Int)) = false := decide_eq_false (by omega)
                have hnil : ((l.drop K).take a).drop a = [] := List.drop_eq_nil_of_le (by rw [List.length_take]; omega)
                rw [hnil] at hI'
                have hRv := hR2.out hN0 hI'
                have hw7 : IntKind.i64.wrap (((K + a : Nat) : Int) - (P : Int)) = R := by
                  obtain ⟨_, _, _⟩ := hX.out
                  rw [hRv, IntKind.wrap_i64]; omega
                clear hR1 hR2 hI' hBh hnil hRv
                generalize K + a = KN at *
                go_wp2
                go_ret
                exact ⟨rfl, rfl⟩
    · have e1 : ((A : Int) != s) = true := by simp; omega
      have e2 : ((A : Int) != g) = false := by simp; omega
      clear hsm hv hn
      go_enter Tryz.func44, Tryz.ntmps44
      go_wp2_with fail
      refine Calls.mono ka.out ?_
      rintro e w2 ⟨rfl, rfl⟩
      go_wp2_with fail
      refine Calls.mono ka.out ?_
      rintro e w2 ⟨rfl, rfl⟩
      clear ka
      by_cases hsg1 : byteAt l Q = 43
      · have hv1' := hv1.out
        have hE' := hE.out
        clear hv1 hE
        have e3 : ((A1 : Int) == 43) = true := by rw [beq_iff_eq]; omega
        rw [if_pos (.inl hsg1)] at hE'
        have hw2 : IntKind.i64.wrap ((Q : Int) + 1) = (K : Int) := by
          obtain ⟨_, _, _⟩ := hX.out
          rw [IntKind.wrap_i64]; omega
        clear hv1' hsg1 hE'
        go_wp2_with fail
        refine Calls.mono ka1.out ?_
        rintro e w2 ⟨rfl, rfl⟩
        go_wp2_with fail
        refine Calls.mono kd.out ?_
        rintro e w2 ⟨rfl, rfl⟩
        clear kd ka1
        by_cases hN0 : N = 0
        · obtain rfl := hR0.out hN0
          subst hN0
          clear hR0 hR1 hR2 hBh hFF
          go_wp2
          go_ret
          exact ⟨rfl, rfl⟩
        · have dN : ((N : Int) == 0) = false := by rw [beq_eq_false_iff_ne]; omega
          have hsz : K + N ≤ l.length := by have := hsl.out; omega
          have hwN : IntKind.i64.wrap ((K : Int) + (N : Int)) = ((K + N : Nat) : Int) := by rw [IntKind.wrap_i64]; omega
          clear hR0
          go_wp2
          go_loop [11, 12] (fun vv vj => ∃ x a : Nat, vv = .int .i64 x ∧ vj = .int .i64 ((K + a : Nat) : Int) ∧ x ≤ 999 ∧ a ≤ N ∧ Hid (FF = fitsGo x (((l.drop K).take N).drop a))) (fun _ vj => K + N - (intOf vj).toNat)
          case atStart => exact ⟨0, 0, rfl, rfl, by decide, Nat.zero_le _, by rw [List.drop_zero]; exact hFF.out.symm⟩
          case round =>
            obtain ⟨x, a, rfl, rfl, hx, ha, hI⟩ := hrel
            have hI' := hI.out
            clear hI hFF
            by_cases hlt : a < N
            · have d1 : decide (((K + a : Nat) : Int) < ((K + N : Nat) : Int)) = true := decide_eq_true (by omega)
              rw [take_step l K N a hlt (by omega)] at hI'
              have hc := hBh.out (K + a) (by omega)
              have hc256 : (l.getD (K + a) 0).toNat < 256 := UInt8.toNat_lt _
              unfold fitsGo at hI'
              generalize (l.getD (K + a) 0).toNat = C at *
              have hwu : IntKind.u8.wrap ((C : Int) - 48) = (((C + 208) % 256 : Nat) : Int) := by rw [IntKind.wrap_u8]; omega
              have hd256 : (C + 208) % 256 < 256 := Nat.mod_lt _ (by decide)
              generalize (C + 208) % 256 = DD at *
              have hw5 : IntKind.i64.wrap (10 * (x : Int) + (DD : Int)) = 10 * (x : Int) + (DD : Int) := by rw [IntKind.wrap_i64]; omega
              have hKl : K + a < l.length := by omega
              have hKa : K + a + 1 ≤ K + N := by omega
              have hKn : K + a < K + N := by omega
              have hw6 : IntKind.i64.wrap (((K + a : Nat) : Int) + 1) = ((K + a + 1 : Nat) : Int) := by rw [IntKind.wrap_i64]; omega
              by_cases hgt : 999 < 10 * x + DD
              · rw [if_pos hgt] at hI'
                have d2 : decide (10 * (x : Int) + (DD : Int) > 999) = true := decide_eq_true (by omega)
                obtain rfl := hR1.out hI'
                clear hR1 hR2 hI' hBh
                generalize K + a = KA at *
                generalize K + N = KN at *
                go_wp2
                go_ret
                exact ⟨rfl, rfl⟩
              · rw [if_neg hgt] at hI'
                have d2 : decide (10 * (x : Int) + (DD : Int) > 999) = false := decide_eq_false (by omega)
                have hI2 : Hid _ := hI'
                have hrel2 : Hid (∀ v : Int, v = ((K + a + 1 : Nat) : Int) → ∃ x' a' : Nat, Value.int .i64 (10 * (x : Int) + (DD : Int)) = .int .i64 x' ∧ Value.int .i64 v = .int .i64 ((K + a' : Nat) : Int) ∧ x' ≤ 999 ∧ a' ≤ N ∧ Hid (FF = fitsGo x' (((l.drop K).take N).drop a'))) := by
                  intro v hv
                  exact ⟨10 * x + DD, a + 1, by congr 1, by rw [hv]; rfl, by omega, by omega, hI2.out⟩
                have hms : Hid (K + N - (K + a + 1) < K + N - (K + a)) := by show _ < _; omega
                clear hR1 hR2 hI' hBh hI2
                generalize K + a + 1 = KB at *
                generalize K + a = KA at *
                generalize K + N = KN at *
                go_wp2
                refine ⟨hrel2.out _ (by first | rfl | omega), by simp [intOf]; first | exact hms.out | omega⟩
            · obtain rfl : a = N := by omega
              have d1 : decide (((K + a : Nat) : Int) < ((K + a : Nat) : Int)) = false := decide_eq_false (by omega)
              have hnil : ((l.drop K).take a).drop a = [] := List.drop_eq_nil_of_le (by rw [List.length_take]; omega)
              rw [hnil] at hI'
              have hRv := hR2.out hN0 hI'
              have hw7 : IntKind.i64.wrap (((K + a : Nat) : Int) - (P : Int)) = R := by
                obtain ⟨_, _, _⟩ := hX.out
                rw [hRv, IntKind.wrap_i64]; omega
              clear hR1 hR2 hI' hBh hnil hRv
              generalize K + a = KN at *
              go_wp2
              go_ret
              exact ⟨rfl, rfl⟩
      · by_cases hsg2 : byteAt l Q = 45
        · have hv1' := hv1.out
          have hE' := hE.out
          clear hv1 hE
          have e3 : ((A1 : Int) == 43) = false := by rw [beq_eq_false_iff_ne]; omega
          have e4 : ((A1 : Int) == 45) = true := by rw [beq_iff_eq]; omega
          rw [if_pos (.inr hsg2)] at hE'
          have hw2 : IntKind.i64.wrap ((Q : Int) + 1) = (K : Int) := by
            obtain ⟨_, _, _⟩ := hX.out
            rw [IntKind.wrap_i64]; omega
          clear hv1' hsg1 hsg2 hE'
          go_wp2_with fail
          refine Calls.mono ka1.out ?_
          rintro e w2 ⟨rfl, rfl⟩
          go_wp2_with fail
          refine Calls.mono ka1.out ?_
          rintro e w2 ⟨rfl, rfl⟩
          go_wp2_with fail
          refine Calls.mono kd.out ?_
          rintro e w2 ⟨rfl, rfl⟩
          clear kd ka1
          by_cases hN0 : N = 0
          · obtain rfl := hR0.out hN0
            subst hN0
            clear hR0 hR1 hR2 hBh hFF
            go_wp2
            go_ret
            exact ⟨rfl, rfl⟩
          · have dN : ((N : Int) == 0) = false := by rw [beq_eq_false_iff_ne]; omega
            have hsz : K + N ≤ l.length := by have := hsl.out; omega
            have hwN : IntKind.i64.wrap ((K : Int) + (N : Int)) = ((K + N : Nat) : Int) := by rw [IntKind.wrap_i64]; omega
            clear hR0
            go_wp2
            go_loop [11, 12] (fun vv vj => ∃ x a : Nat, vv = .int .i64 x ∧ vj = .int .i64 ((K + a : Nat) : Int) ∧ x ≤ 999 ∧ a ≤ N ∧ Hid (FF = fitsGo x (((l.drop K).take N).drop a))) (fun _ vj => K + N - (intOf vj).toNat)
            case atStart => exact ⟨0, 0, rfl, rfl, by decide, Nat.zero_le _, by rw [List.drop_zero]; exact hFF.out.symm⟩
            case round =>
              obtain ⟨x, a, rfl, rfl, hx, ha, hI⟩ := hrel
              have hI' := hI.out
              clear hI hFF
              by_cases hlt : a < N
              · have d1 : decide (((K + a : Nat) : Int) < ((K + N : Nat) : Int)) = true := decide_eq_true (by omega)
                rw [take_step l K N a hlt (by omega)] at hI'
                have hc := hBh.out (K + a) (by omega)
                have hc256 : (l.getD (K + a) 0).toNat < 256 := UInt8.toNat_lt _
                unfold fitsGo at hI'
                generalize (l.getD (K + a) 0).toNat = C at *
                have hwu : IntKind.u8.wrap ((C : Int) - 48) = (((C + 208) % 256 : Nat) : Int) := by rw [IntKind.wrap_u8]; omega
                have hd256 : (C + 208) % 256 < 256 := Nat.mod_lt _ (by decide)
                generalize (C + 208) % 256 = DD at *
                have hw5 : IntKind.i64.wrap (10 * (x : Int) + (DD : Int)) = 10 * (x : Int) + (DD : Int) := by rw [IntKind.wrap_i64]; omega
                have hKl : K + a < l.length := by omega
                have hKa : K + a + 1 ≤ K + N := by omega
                have hKn : K + a < K + N := by omega
                have hw6 : IntKind.i64.wrap (((K + a : Nat) : Int) + 1) = ((K + a + 1 : Nat) : Int) := by rw [IntKind.wrap_i64]; omega
                by_cases hgt : 999 < 10 * x + DD
                · rw [if_pos hgt] at hI'
                  have d2 : decide (10 * (x : Int) + (DD : Int) > 999) = true := decide_eq_true (by omega)
                  obtain rfl := hR1.out hI'
                  clear hR1 hR2 hI' hBh
                  generalize K + a = KA at *
                  generalize K + N = KN at *
                  go_wp2
                  go_ret
                  exact ⟨rfl, rfl⟩
                · rw [if_neg hgt] at hI'
                  have d2 : decide (10 * (x : Int) + (DD : Int) > 999) = false := decide_eq_false (by omega)
                  have hI2 : Hid _ := hI'
                  have hrel2 : Hid (∀ v : Int, v = ((K + a + 1 : Nat) : Int) → ∃ x' a' : Nat, Value.int .i64 (10 * (x : Int) + (DD : Int)) = .int .i64 x' ∧ Value.int .i64 v = .int .i64 ((K + a' : Nat) : Int) ∧ x' ≤ 999 ∧ a' ≤ N ∧ Hid (FF = fitsGo x' (((l.drop K).take N).drop a'))) := by
                    intro v hv
                    exact ⟨10 * x + DD, a + 1, by congr 1, by rw [hv]; rfl, by omega, by omega, hI2.out⟩
                  have hms : Hid (K + N - (K + a + 1) < K + N - (K + a)) := by show _ < _; omega
                  clear hR1 hR2 hI' hBh hI2
                  generalize K + a + 1 = KB at *
                  generalize K + a = KA at *
                  generalize K + N = KN at *
                  go_wp2
                  refine ⟨hrel2.out _ (by first | rfl | omega), by simp [intOf]; first | exact hms.out | omega⟩
              · obtain rfl : a = N := by omega
                have d1 : decide (((K + a : Nat) : Int) < ((K + a : Nat) : Int)) = false := decide_eq_false (by omega)
                have hnil : ((l.drop K).take a).drop a = [] := List.drop_eq_nil_of_le (by rw [List.length_take]; omega)
                rw [hnil] at hI'
                have hRv := hR2.out hN0 hI'
                have hw7 : IntKind.i64.wrap (((K + a : Nat) : Int) - (P : Int)) = R := by
                  obtain ⟨_, _, _⟩ := hX.out
                  rw [hRv, IntKind.wrap_i64]; omega
                clear hR1 hR2 hI' hBh hnil hRv
                generalize K + a = KN at *
                go_wp2
                go_ret
                exact ⟨rfl, rfl⟩
        · have hv1' := hv1.out
          have hE' := hE.out
          clear hv1 hE
          have e3 : ((A1 : Int) == 43) = false := by rw [beq_eq_false_iff_ne]; omega
          have e4 : ((A1 : Int) == 45) = false := by rw [beq_eq_false_iff_ne]; omega
          rw [if_neg (fun h => h.elim hsg1 hsg2)] at hE'
          obtain rfl : K = Q := by
            obtain ⟨_, _, _⟩ := hX.out
            omega
          clear hv1' hsg1 hsg2 hE'
          go_wp2_with fail
          refine Calls.mono ka1.out ?_
          rintro e w2 ⟨rfl, rfl⟩
          go_wp2_with fail
          refine Calls.mono ka1.out ?_
          rintro e w2 ⟨rfl, rfl⟩
          go_wp2_with fail
          refine Calls.mono kd.out ?_
          rintro e w2 ⟨rfl, rfl⟩
          clear kd ka1
          by_cases hN0 : N = 0
          · obtain rfl := hR0.out hN0
            subst hN0
            clear hR0 hR1 hR2 hBh hFF
            go_wp2
            go_ret
            exact ⟨rfl, rfl⟩
          · have dN : ((N : Int) == 0) = false := by rw [beq_eq_false_iff_ne]; omega
            have hsz : K + N ≤ l.length := by have := hsl.out; omega
            have hwN : IntKind.i64.wrap ((K : Int) + (N : Int)) = ((K + N : Nat) : Int) := by rw [IntKind.wrap_i64]; omega
            clear hR0
            go_wp2
            go_loop [11, 12] (fun vv vj => ∃ x a : Nat, vv = .int .i64 x ∧ vj = .int .i64 ((K + a : Nat) : Int) ∧ x ≤ 999 ∧ a ≤ N ∧ Hid (FF = fitsGo x (((l.drop K).take N).drop a))) (fun _ vj => K + N - (intOf vj).toNat)
            case atStart => exact ⟨0, 0, rfl, rfl, by decide, Nat.zero_le _, by rw [List.drop_zero]; exact hFF.out.symm⟩
            case round =>
              obtain ⟨x, a, rfl, rfl, hx, ha, hI⟩ := hrel
              have hI' := hI.out
              clear hI hFF
              by_cases hlt : a < N
              · have d1 : decide (((K + a : Nat) : Int) < ((K + N : Nat) : Int)) = true := decide_eq_true (by omega)
                rw [take_step l K N a hlt (by omega)] at hI'
                have hc := hBh.out (K + a) (by omega)
                have hc256 : (l.getD (K + a) 0).toNat < 256 := UInt8.toNat_lt _
                unfold fitsGo at hI'
                generalize (l.getD (K + a) 0).toNat = C at *
                have hwu : IntKind.u8.wrap ((C : Int) - 48) = (((C + 208) % 256 : Nat) : Int) := by rw [IntKind.wrap_u8]; omega
                have hd256 : (C + 208) % 256 < 256 := Nat.mod_lt _ (by decide)
                generalize (C + 208) % 256 = DD at *
                have hw5 : IntKind.i64.wrap (10 * (x : Int) + (DD : Int)) = 10 * (x : Int) + (DD : Int) := by rw [IntKind.wrap_i64]; omega
                have hKl : K + a < l.length := by omega
                have hKa : K + a + 1 ≤ K + N := by omega
                have hKn : K + a < K + N := by omega
                have hw6 : IntKind.i64.wrap (((K + a : Nat) : Int) + 1) = ((K + a + 1 : Nat) : Int) := by rw [IntKind.wrap_i64]; omega
                by_cases hgt : 999 < 10 * x + DD
                · rw [if_pos hgt] at hI'
                  have d2 : decide (10 * (x : Int) + (DD : Int) > 999) = true := decide_eq_true (by omega)
                  obtain rfl := hR1.out hI'
                  clear hR1 hR2 hI' hBh
                  generalize K + a = KA at *
                  generalize K + N = KN at *
                  go_wp2
                  go_ret
                  exact ⟨rfl, rfl⟩
                · rw [if_neg hgt] at hI'
                  have d2 : decide (10 * (x : Int) + (DD : Int) > 999) = false := decide_eq_false (by omega)
                  have hI2 : Hid _ := hI'
                  have hrel2 : Hid (∀ v : Int, v = ((K + a + 1 : Nat) : Int) → ∃ x' a' : Nat, Value.int .i64 (10 * (x : Int) + (DD : Int)) = .int .i64 x' ∧ Value.int .i64 v = .int .i64 ((K + a' : Nat) : Int) ∧ x' ≤ 999 ∧ a' ≤ N ∧ Hid (FF = fitsGo x' (((l.drop K).take N).drop a'))) := by
                    intro v hv
                    exact ⟨10 * x + DD, a + 1, by congr 1, by rw [hv]; rfl, by omega, by omega, hI2.out⟩
                  have hms : Hid (K + N - (K + a + 1) < K + N - (K + a)) := by show _ < _; omega
                  clear hR1 hR2 hI' hBh hI2
                  generalize K + a + 1 = KB at *
                  generalize K + a = KA at *
                  generalize K + N = KN at *
                  go_wp2
                  refine ⟨hrel2.out _ (by first | rfl | omega), by simp [intOf]; first | exact hms.out | omega⟩
              · obtain rfl : a = N := by omega
                have d1 : decide (((K + a : Nat) : Int) < ((K + a : Nat) : Int)) = false := decide_eq_false (by omega)
                have hnil : ((l.drop K).take a).drop a = [] := List.drop_eq_nil_of_le (by rw [List.length_take]; omega)
                rw [hnil] at hI'
                have hRv := hR2.out hN0 hI'
                have hw7 : IntKind.i64.wrap (((K + a : Nat) : Int) - (P : Int)) = R := by
                  obtain ⟨_, _, _⟩ := hX.out
                  rw [hRv, IntKind.wrap_i64]; omega
                clear hR1 hR2 hI' hBh hnil hRv
                generalize K + a = KN at *
                go_wp2
                go_ret
                exact ⟨rfl, rfl⟩
end Go.Proofs.YtfbacidpjpghiaaGreatDoor
