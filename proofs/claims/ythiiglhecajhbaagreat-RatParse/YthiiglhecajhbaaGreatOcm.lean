/- the second road: digits, bytes at places, exponents. -/
import Derived.Test.YthiiglhecajhbaaGreatOa
import Derived.Deep.CutBlock
namespace Go.Proofs.YthiiglhecajhbaaGreat
namespace Nn
open Go.RowKit
attribute [local go_sem ↓] Go.wp_at_zero Go.wp_at_succ
def hexD (c : Nat) : Nat := if c ≤ 57 then c - 48 else if c ≤ 70 then c - 55 else c - 87
def isHexN (c : Nat) : Bool := decide (48 ≤ c ∧ c ≤ 57) || decide ((97 ≤ c ∧ c ≤ 102) ∨ (65 ≤ c ∧ c ≤ 70))
theorem hexD_lt (c : Nat) (h : isHexN c = true) : hexD c < 16 := by
  unfold isHexN at h
  unfold hexD
  simp at h
  split
  · omega
  · split <;> omega
/-- The bytes l lie from an address on. -/
def BytesAt (w : World) (ad : Addr) (l : List UInt8) : Prop := ∀ j, j < l.length → w.cell? (ad.add j) = some (.int .u8 (l.getD j 0).toNat)
/-- A digit's worth, -1 where there is none. -/
def digN (c : Nat) : Int := if isHexN c = true then (hexD c : Int) else -1
theorem Digit_any (c : Nat) (hc : c < 256) (w : World) : Calls Tryz.prog 70 #[.int .u8 c] w fun e w' => e = .returned (.int .i64 (digN c)) ∧ w' = w := by
  by_cases h1 : 48 ≤ c ∧ c ≤ 57
  · obtain ⟨a0, a1⟩ := h1
    have hd : digN c = (c : Int) - 48 := by
      have : isHexN c = true := by unfold isHexN; simp; omega
      unfold digN; rw [if_pos this]; unfold hexD; rw [if_pos a1]; omega
    rw [hd]
    clear hd
    go_enter Tryz.func70, Tryz.ntmps70
    go_wp2
    go_ret
    exact ⟨by first | rfl | (congr 2; omega), rfl⟩
  · by_cases h2 : 97 ≤ c ∧ c ≤ 102
    · obtain ⟨a0, a1⟩ := h2
      have a2 : ¬ c ≤ 57 := by omega
      have hd : digN c = (c : Int) - 97 + 10 := by
        have : isHexN c = true := by unfold isHexN; simp; omega
        unfold digN; rw [if_pos this]; unfold hexD; rw [if_neg a2, if_neg (by omega)]; omega
      rw [hd]
      clear hd h1
      go_enter Tryz.func70, Tryz.ntmps70
      go_wp2
      go_ret
      exact ⟨by first | rfl | (congr 2; omega), rfl⟩
    · by_cases h3 : 65 ≤ c ∧ c ≤ 70
      · obtain ⟨a0, a1⟩ := h3
        have a2 : ¬ c ≤ 57 := by omega
        have hd : digN c = (c : Int) - 65 + 10 := by
          have : isHexN c = true := by unfold isHexN; simp; omega
          unfold digN; rw [if_pos this]; unfold hexD; rw [if_neg a2, if_pos a1]; omega
        rw [hd]
        clear hd h1 h2
        go_enter Tryz.func70, Tryz.ntmps70
        go_wp2
        go_ret
        exact ⟨by first | rfl | (congr 2; omega), rfl⟩
      · have hd : digN c = -1 := by
          have : ¬ isHexN c = true := by unfold isHexN; simp; omega
          unfold digN; rw [if_neg this]
        rw [hd]
        clear hd
        go_enter Tryz.func70, Tryz.ntmps70
        go_wp2
        all_goals go_ret
        all_goals exact ⟨rfl, rfl⟩
theorem digN_le (c : Nat) : -1 ≤ digN c ∧ digN c < 16 := by
  unfold digN
  split
  · rename_i h
    have := hexD_lt c h
    omega
  · omega
/-- A byte of a row, 0 behind its end. -/
theorem at_any (w : World) (ad : Addr) (cap i : Nat) (l : List UInt8) (hB : BytesAt w ad l) (_hi : i < 4611686018427387904) (_hl : l.length < 4611686018427387904) : Calls Tryz.prog 67 #[.slice (some ad) l.length cap, .int .i64 i] w fun e w' => e = .returned (.int .u8 (l.getD i 0).toNat) ∧ w' = w := by
  by_cases hlt : i < l.length
  · have hc := hB i hlt
    have d1 : decide ((i : Int) < l.length) = true := decide_eq_true (by omega)
    clear hB
    generalize (l.getD i 0).toNat = C at *
    go_enter Tryz.func67, Tryz.ntmps67
    go_wp2
    go_ret
    exact ⟨rfl, rfl⟩
  · have d1 : decide ((i : Int) < l.length) = false := decide_eq_false (by omega)
    have h0 : (l.getD i 0).toNat = 0 := by
      rw [List.getD_eq_getElem?_getD, List.getElem?_eq_none (by omega)]; rfl
    rw [h0]
    clear hB h0
    go_enter Tryz.func67, Tryz.ntmps67
    go_wp2
    go_ret
    exact ⟨rfl, rfl⟩
/-- How many digits to a base stand at the beginning. -/
def digsL (B : Int) : List UInt8 → Nat
  | [] => 0
  | c :: r => if digN c.toNat < 0 ∨ B ≤ digN c.toNat then 0 else digsL B r + 1
theorem digsL_le (B : Int) (l : List UInt8) : digsL B l ≤ l.length := by
  induction l with
  | nil => exact Nat.le_refl _
  | cons c r ih =>
    unfold digsL
    split
    · exact Nat.zero_le _
    · simp; exact ih
set_option maxRecDepth 20000 in
set_option maxHeartbeats 4000000 in
theorem digits_any (w : World) (ad : Addr) (cap i : Nat) (B : Int) (l : List UInt8) (hB : BytesAt w ad l) (hi : i < 4611686018427387904) (hl : l.length < 4611686018427387904) : Calls Tryz.prog 102 #[.slice (some ad) l.length cap, .int .i64 i, .int .i64 B] w fun e w' => e = .returned (.int .i64 (digsL B (l.drop i) : Nat)) ∧ w' = w := by
  obtain ⟨S, hS⟩ : ∃ S, S = digsL B (l.drop i) := ⟨_, rfl⟩
  have hSl : S ≤ l.length := by
    rw [hS]
    refine Nat.le_trans (digsL_le _ _) ?_
    simp
  rw [← hS]
  replace hS : Hid _ := hS
  replace hB : Hid _ := hB
  go_enter Tryz.func102, Tryz.ntmps102
  go_wp2
  go_loop [7] (fun n => ∃ k : Nat, n = .int .i64 k ∧ k ≤ S ∧ Hid (S = k + digsL B (l.drop (i + k)))) (fun n => S + 1 - (intOf n).toNat)
  case atStart => exact ⟨0, rfl, Nat.zero_le _, by rw [Nat.zero_add]; exact hS.out⟩
  case round =>
    obtain ⟨k, rfl, hk, hI⟩ := hrel
    have hI' := hI.out
    clear hI
    have hw : IntKind.i64.wrap ((i : Int) + k) = ((i + k : Nat) : Int) := by rw [IntKind.wrap_i64]; omega
    by_cases hlt : i + k < l.length
    · have d1 : decide (((i + k : Nat) : Int) < l.length) = true := decide_eq_true (by omega)
      have hc := hB.out (i + k) hlt
      have hdrop : l.drop (i + k) = l[i + k]'hlt :: l.drop (i + k + 1) := List.drop_eq_getElem_cons hlt
      have hget : l.getD (i + k) 0 = l[i + k]'hlt := by simp [List.getD, List.getElem?_eq_getElem hlt]
      rw [hdrop] at hI'
      rw [hget] at hc
      generalize l[i + k]'hlt = c at hc hI'
      have kd : Hid _ := fun w => Digit_any c.toNat c.toNat_lt w
      have hdl := digN_le c.toNat
      unfold digsL at hI'
      generalize c.toNat = C at *
      generalize digN C = D at *
      generalize hP : i + k = P at *
      obtain ⟨hd0, hd1⟩ := hdl
      clear hdrop hget
      by_cases h0 : D < 0
      · rw [if_pos (.inl h0)] at hI'
        have hkS : S = k := by omega
        have e0 : decide (D < 0) = true := decide_eq_true h0
        subst hkS
        clear hI' hB hS
        go_wp2_with fail
        refine Calls.mono (kd.out _) ?_
        rintro e w2 ⟨rfl, rfl⟩
        go_wp2
        go_ret
        exact ⟨rfl, rfl⟩
      · have e0 : decide (D < 0) = false := decide_eq_false h0
        by_cases h1 : B ≤ D
        · rw [if_pos (.inr h1)] at hI'
          have hkS : S = k := by omega
          have e1 : decide (D ≥ B) = true := decide_eq_true h1
          subst hkS
          clear hI' hB hS
          go_wp2_with fail
          refine Calls.mono (kd.out _) ?_
          rintro e w2 ⟨rfl, rfl⟩
          go_wp2
          go_ret
          exact ⟨rfl, rfl⟩
        · rw [if_neg (fun h => h.elim h0 h1)] at hI'
          have e1 : decide (D ≥ B) = false := decide_eq_false h1
          have hI2 : Hid (S = k + 1 + digsL B (l.drop (i + (k + 1)))) := by
            show S = _
            rw [← Nat.add_assoc i k 1, hP]
            omega
          have hkS : k + 1 ≤ S := by omega
          clear hI' hB hS
          go_wp2_with fail
          refine Calls.mono (kd.out _) ?_
          rintro e w2 ⟨rfl, rfl⟩
          go_wp2
          refine ⟨⟨k + 1, by go_num, hkS, hI2⟩, by simp [intOf]; omega⟩
    · have d1 : decide (((i + k : Nat) : Int) < l.length) = false := decide_eq_false (by omega)
      rw [List.drop_eq_nil_of_le (by omega)] at hI'
      have hkS : S = k := by simpa [digsL] using hI'
      subst hkS
      clear hI' hB hS
      go_wp2
      go_ret
      exact ⟨rfl, rfl⟩
set_option maxRecDepth 20000 in
theorem letter_any (c : Nat) (w : World) : Calls Tryz.prog 104 #[.int .u8 c] w fun e w' => e = .returned (.bool (isLetterB (c : Int))) ∧ w' = w := by
  go_enter Tryz.func104, Tryz.ntmps104
  go_wp2
  all_goals go_ret
  all_goals refine ⟨congrArg (fun b => Ending.returned (.bool b)) ?_, rfl⟩
  all_goals rw [Bool.eq_iff_iff]
  all_goals simp [isLetterB]
  all_goals omega
set_option maxRecDepth 20000 in
theorem digit_any (c : Nat) (w : World) : Calls Tryz.prog 66 #[.int .u8 c] w fun e w' => e = .returned (.bool (isDigitB (c : Int))) ∧ w' = w := by
  go_enter Tryz.func66, Tryz.ntmps66
  go_wp2
  all_goals go_ret
  all_goals refine ⟨congrArg (fun b => Ending.returned (.bool b)) ?_, rfl⟩
  all_goals rw [Bool.eq_iff_iff]
  all_goals simp [isDigitB]
  all_goals omega
theorem atv (l : List UInt8) (k : Nat) : (((l.getD k 0).toNat : Nat) : Int) = byteAt l k ∨ (byteAt l k = -1 ∧ (l.getD k 0).toNat = 0) := by
  rcases Nat.lt_or_ge k l.length with h | h
  · exact .inl (byteAt_get l k h).symm
  · refine .inr ⟨by unfold byteAt; rw [List.drop_eq_nil_of_le h], ?_⟩
    rw [List.getD_eq_getElem?_getD, List.getElem?_eq_none h]; rfl
theorem digs_span (B : Int) (p : Int → Bool) (h : ∀ c : Fin 256, (digN c.val < 0 ∨ B ≤ digN c.val) ↔ p ((c.val : Nat) : Int) = false) (l : List UInt8) : digsL B l = spanL p l := by
  induction l with
  | nil => rfl
  | cons c l ih =>
    have hc := h ⟨c.toNat, c.toNat_lt⟩
    unfold digsL spanL
    by_cases hp : p ((c.toNat : Nat) : Int) = true
    · rw [if_pos hp, if_neg (fun h2 => by have := hc.1 h2; simp only at this; rw [hp] at this; cases this), ih]
    · rw [if_neg hp, if_pos (hc.2 (by simpa using hp))]
theorem digs16 (l : List UInt8) : digsL 16 l = spanL isHexB l := digs_span 16 isHexB (by decide +kernel) l
theorem digs10 (l : List UInt8) : digsL 10 l = spanL isDigitB l := digs_span 10 isDigitB (by decide +kernel) l
theorem digs8 (l : List UInt8) : digsL 8 l = spanL isOctalB l := digs_span 8 isOctalB (by decide +kernel) l
theorem digs2 (l : List UInt8) : digsL 2 l = spanL isBinaryB l := digs_span 2 isBinaryB (by decide +kernel) l
theorem take_step (l : List UInt8) (K N a : Nat) (ha : a < N) (h : K + N ≤ l.length) : ((l.drop K).take N).drop a = (l.getD (K + a) 0) :: ((l.drop K).take N).drop (a + 1) := by
  have hlt : a < ((l.drop K).take N).length := by rw [List.length_take, List.length_drop]; omega
  have hk : K + a < l.length := by omega
  rw [List.drop_eq_getElem_cons hlt]
  congr 1
  rw [List.getElem_take, List.getElem_drop]
  simp [List.getD, List.getElem?_eq_getElem hk]
/-- What exponent answers, at place m of L. -/
def expR (L : List UInt8) (m : Nat) (s g : Int) : Int := if byteAt L m ≠ s ∧ byteAt L m ≠ g then 0 else if expM L m = 0 then -1 else ((expM L m - m : Nat) : Int)
set_option maxRecDepth 100000 in
set_option maxHeartbeats 16000000 in
theorem exponent_any (w : World) (ad : Addr) (cap i m : Nat) (l : List UInt8) (hB : BytesAt w ad l) (hi : i + m ≤ l.length) (hl : l.length < 1000000) (s g : Nat) (hs0 : 0 < s) (hg0 : 0 < g) (_hsg : s ≠ g) : Calls Tryz.prog 103 #[.slice (some ad) l.length cap, .int .i64 ((i + m : Nat) : Int), .int .u8 s, .int .u8 g] w fun e w' => e = .returned (.int .i64 (expR (l.drop i) m s g)) ∧ w' = w := by
  obtain ⟨R, hR⟩ : ∃ R, R = expR (l.drop i) m s g := ⟨_, rfl⟩
  rw [← hR]
  unfold expR at hR
  rw [byteAt_drop] at hR
  have ka : Hid _ := at_any w ad cap (i + m) l hB (by omega) (by omega)
  have hv := atv l (i + m)
  generalize hA : (l.getD (i + m) 0).toNat = A at *
  have hw1 : IntKind.i64.wrap (((i + m : Nat) : Int) + 1) = ((i + m + 1 : Nat) : Int) := by rw [IntKind.wrap_i64]; omega
  have hBh : Hid _ := hB
  clear hB
  by_cases hn : byteAt l (i + m) ≠ s ∧ byteAt l (i + m) ≠ g
  · rw [if_pos hn] at hR
    subst hR
    have e1 : ((A : Int) != s) = true := by simp; omega
    have e2 : ((A : Int) != g) = true := by simp; omega
    clear hn hv hA hBh hw1
    generalize i + m = P at *
    go_enter Tryz.func103, Tryz.ntmps103
    go_wp2_with fail
    refine Calls.mono ka.out ?_
    rintro e w2 ⟨rfl, rfl⟩
    go_wp2_with fail
    refine Calls.mono ka.out ?_
    rintro e w2 ⟨rfl, rfl⟩
    go_wp2
    go_ret
    exact ⟨rfl, rfl⟩
  · rw [if_neg hn] at hR
    have ka1 : Hid _ := at_any w ad cap (i + m + 1) l hBh.out (by omega) (by omega)
    have hv1 := atv l (i + m + 1)
    have hE : expAt (l.drop i) m = if byteAt l (i + m + 1) = 43 ∨ byteAt l (i + m + 1) = 45 then m + 1 + 1 else m + 1 := by
      unfold expAt
      rw [byteAt_drop, ← Nat.add_assoc i m 1]
    generalize hA1 : (l.getD (i + m + 1) 0).toNat = A1 at *
    generalize hEe : expAt (l.drop i) m = E at *
    unfold expM at hR
    rw [hEe] at hR
    have hEm : m + 1 ≤ E ∧ E ≤ m + 2 := by rw [hE]; split <;> omega
    have kd : Hid _ := digits_any w ad cap (i + E) 10 l hBh.out (by omega) (by omega)
    have hdd : l.drop (i + E) = (l.drop i).drop E := by rw [List.drop_drop]
    rw [digs10] at kd
    have hsl := spanL_le isDigitB (l.drop (i + E))
    rw [List.length_drop] at hsl
    rw [← hdd] at hR
    have htk : ((l.drop i).take (E + spanL isDigitB (l.drop (i + E)))).drop E = (l.drop (i + E)).take (spanL isDigitB (l.drop (i + E))) := by
      rw [List.drop_take, List.drop_drop, Nat.add_sub_cancel_left]
    rw [htk] at hR
    generalize hN : spanL isDigitB (l.drop (i + E)) = N at *
    have hF0 : Hid (fitsGo 0 ((l.drop (i + E)).take N) = fitsGo 0 (((l.drop (i + E)).take N).drop 0)) := rfl
    generalize hFF : fitsGo 0 ((l.drop (i + E)).take N) = FF at *
    have hR0 : N = 0 → R = -1 := fun h => by rw [hR, if_pos (by rw [if_pos (.inl h)])]
    have hR1 : FF = false → R = -1 := fun h => by rw [hR, if_pos (by rw [if_pos (.inr h)])]
    have hR2 : N ≠ 0 → FF = true → R = ((E + N - m : Nat) : Int) := fun h1 h2 => by
      have hc : ¬ (N = 0 ∨ FF = false) := by rw [h2]; simp; exact h1
      rw [hR, if_neg hc, if_neg (by omega)]
    replace hR0 : Hid _ := hR0
    replace hR1 : Hid _ := hR1
    replace hR2 : Hid _ := hR2
    obtain ⟨K, hK⟩ : ∃ K, K = i + E := ⟨_, rfl⟩
    rw [← hK] at kd hF0 hFF hsl
    obtain ⟨Q, hQ⟩ : ∃ Q, Q = i + m + 1 := ⟨_, rfl⟩
    rw [← hQ] at hw1 ka1 hv1 hE
    obtain ⟨P, hP⟩ : ∃ P, P = i + m := ⟨_, rfl⟩
    rw [← hP] at hw1 ka hv hn ⊢
    have hPl : P ≤ l.length := by omega
    replace hFF : Hid _ := hFF
    clear hR htk hdd hN hA hA1 hEe hF0
    replace hv1 : Hid _ := hv1
    replace hE : Hid _ := hE
    have hX : Hid (K = i + E ∧ Q = i + m + 1 ∧ P = i + m) := ⟨hK, hQ, hP⟩
    clear hK hQ hP
    replace hsl : Hid _ := hsl
    by_cases hsm : byteAt l P = s
    · have e1 : ((A : Int) != s) = false := by simp; omega
      clear hsm hv hn
      go_enter Tryz.func103, Tryz.ntmps103
      go_wp2_with fail
      refine Calls.mono ka.out ?_
      rintro e w2 ⟨rfl, rfl⟩
      clear ka
      by_cases hsg1 : byteAt l Q = 43
      · have hv1' := hv1.out
        have hE' := hE.out
        clear hv1 hE
        have e3 : ((A1 : Int) == 43) = true := by rw [beq_iff_eq]; omega
        rw [if_pos (.inl hsg1)] at hE'
        have hw2 : IntKind.i64.wrap ((Q : Int) + 1) = (K : Int) := by
          obtain ⟨_, _, _⟩ := hX.out
          rw [IntKind.wrap_i64]; omega
        clear hv1' hsg1 hE'
        go_wp2_with fail
        refine Calls.mono ka1.out ?_
        rintro e w2 ⟨rfl, rfl⟩
        go_wp2_with fail
        refine Calls.mono kd.out ?_
        rintro e w2 ⟨rfl, rfl⟩
        clear kd ka1
        by_cases hN0 : N = 0
        · obtain rfl := hR0.out hN0
          subst hN0
          clear hR0 hR1 hR2 hBh hFF
          go_wp2
          go_ret
          exact ⟨rfl, rfl⟩
        · have dN : ((N : Int) == 0) = false := by rw [beq_eq_false_iff_ne]; omega
          have hsz : K + N ≤ l.length := by have := hsl.out; omega
          have hwN : IntKind.i64.wrap ((K : Int) + (N : Int)) = ((K + N : Nat) : Int) := by rw [IntKind.wrap_i64]; omega
          clear hR0
          go_wp2
          go_loop [11, 12] (fun vv vj => ∃ x a : Nat, vv = .int .i64 x ∧ vj = .int .i64 ((K + a : Nat) : Int) ∧ x ≤ 999 ∧ a ≤ N ∧ Hid (FF = fitsGo x (((l.drop K).take N).drop a))) (fun _ vj => K + N - (intOf vj).toNat)
          case atStart => exact ⟨0, 0, rfl, rfl, by decide, Nat.zero_le _, by rw [List.drop_zero]; exact hFF.out.symm⟩
          case round =>
            obtain ⟨x, a, rfl, rfl, hx, ha, hI⟩ := hrel
            have hI' := hI.out
            clear hI hFF
            by_cases hlt : a < N
            · have d1 : decide (((K + a : Nat) : Int) < ((K + N : Nat) : Int)) = true := decide_eq_true (by omega)
              rw [take_step l K N a hlt (by omega)] at hI'
              have hc := hBh.out (K + a) (by omega)
              have hc256 : (l.getD (K + a) 0).toNat < 256 := UInt8.toNat_lt _
              unfold fitsGo at hI'
              generalize (l.getD (K + a) 0).toNat = C at *
              have hwu : IntKind.u8.wrap ((C : Int) - 48) = (((C + 208) % 256 : Nat) : Int) := by rw [IntKind.wrap_u8]; omega
              have hd256 : (C + 208) % 256 < 256 := Nat.mod_lt _ (by decide)
              generalize (C + 208) % 256 = DD at *
              have hw5 : IntKind.i64.wrap (10 * (x : Int) + (DD : Int)) = 10 * (x : Int) + (DD : Int) := by rw [IntKind.wrap_i64]; omega
              have hKl : K + a < l.length := by omega
              have hKa : K + a + 1 ≤ K + N := by omega
              have hKn : K + a < K + N := by omega
              have hw6 : IntKind.i64.wrap (((K + a : Nat) : Int) + 1) = ((K + a + 1 : Nat) : Int) := by rw [IntKind.wrap_i64]; omega
              by_cases hgt : 999 < 10 * x + DD
              · rw [if_pos hgt] at hI'
                have d2 : decide (10 * (x : Int) + (DD : Int) > 999) = true := decide_eq_true (by omega)
                obtain rfl := hR1.out hI'
                clear hR1 hR2 hI' hBh
                generalize K + a = KA at *
                generalize K + N = KN at *
                go_wp2
                go_ret
                exact ⟨rfl, rfl⟩
              · rw [if_neg hgt] at hI'
                have d2 : decide (10 * (x : Int) + (DD : Int) > 999) = false := decide_eq_false (by omega)
                have hI2 : Hid _ := hI'
                have hrel2 : Hid (∀ v : Int, v = ((K + a + 1 : Nat) : Int) → ∃ x' a' : Nat, Value.int .i64 (10 * (x : Int) + (DD : Int)) = .int .i64 x' ∧ Value.int .i64 v = .int .i64 ((K + a' : Nat) : Int) ∧ x' ≤ 999 ∧ a' ≤ N ∧ Hid (FF = fitsGo x' (((l.drop K).take N).drop a'))) := by
                  intro v hv
                  exact ⟨10 * x + DD, a + 1, by congr 1, by rw [hv]; rfl, by omega, by omega, hI2.out⟩
                have hms : Hid (K + N - (K + a + 1) < K + N - (K + a)) := by show _ < _; omega
                clear hR1 hR2 hI' hBh hI2
                generalize K + a + 1 = KB at *
                generalize K + a = KA at *
                generalize K + N = KN at *
                go_wp2
                refine ⟨hrel2.out _ (by first | rfl | omega), by simp [intOf]; first | exact hms.out | omega⟩
            · obtain rfl : a = N := by omega
              have d1 : decide (((K + a : Nat) : Int) < ((K + a : Nat) : Int)) = false := decide_eq_false (by omega)
              have hnil : ((l.drop K).take a).drop a = [] := List.drop_eq_nil_of_le (by rw [List.length_take]; omega)
              rw [hnil] at hI'
              have hRv := hR2.out hN0 hI'
              have hw7 : IntKind.i64.wrap (((K + a : Nat) : Int) - (P : Int)) = R := by
                obtain ⟨_, _, _⟩ := hX.out
                rw [hRv, IntKind.wrap_i64]; omega
              clear hR1 hR2 hI' hBh hnil hRv
              generalize K + a = KN at *
              go_wp2
              go_ret
              exact ⟨rfl, rfl⟩
      · by_cases hsg2 : byteAt l Q = 45
        · have hv1' := hv1.out
          have hE' := hE.out
          clear hv1 hE
          have e3 : ((A1 : Int) == 43) = false := by rw [beq_eq_false_iff_ne]; omega
          have e4 : ((A1 : Int) == 45) = true := by rw [beq_iff_eq]; omega
          rw [if_pos (.inr hsg2)] at hE'
          have hw2 : IntKind.i64.wrap ((Q : Int) + 1) = (K : Int) := by
            obtain ⟨_, _, _⟩ := hX.out
            rw [IntKind.wrap_i64]; omega
          clear hv1' hsg1 hsg2 hE'
          go_wp2_with fail
          refine Calls.mono ka1.out ?_
          rintro e w2 ⟨rfl, rfl⟩
          go_wp2_with fail
          refine Calls.mono ka1.out ?_
          rintro e w2 ⟨rfl, rfl⟩
          go_wp2_with fail
          refine Calls.mono kd.out ?_
          rintro e w2 ⟨rfl, rfl⟩
          clear kd ka1
          by_cases hN0 : N = 0
          · obtain rfl := hR0.out hN0
            subst hN0
            clear hR0 hR1 hR2 hBh hFF
            go_wp2
            go_ret
            exact ⟨rfl, rfl⟩
          · have dN : ((N : Int) == 0) = false := by rw [beq_eq_false_iff_ne]; omega
            have hsz : K + N ≤ l.length := by have := hsl.out; omega
            have hwN : IntKind.i64.wrap ((K : Int) + (N : Int)) = ((K + N : Nat) : Int) := by rw [IntKind.wrap_i64]; omega
            clear hR0
            go_wp2
            go_loop [11, 12] (fun vv vj => ∃ x a : Nat, vv = .int .i64 x ∧ vj = .int .i64 ((K + a : Nat) : Int) ∧ x ≤ 999 ∧ a ≤ N ∧ Hid (FF = fitsGo x (((l.drop K).take N).drop a))) (fun _ vj => K + N - (intOf vj).toNat)
            case atStart => exact ⟨0, 0, rfl, rfl, by decide, Nat.zero_le _, by rw [List.drop_zero]; exact hFF.out.symm⟩
            case round =>
              obtain ⟨x, a, rfl, rfl, hx, ha, hI⟩ := hrel
              have hI' := hI.out
              clear hI hFF
              by_cases hlt : a < N
              · have d1 : decide (((K + a : Nat) : Int) < ((K + N : Nat) : Int)) = true := decide_eq_true (by omega)
                rw [take_step l K N a hlt (by omega)] at hI'
                have hc := hBh.out (K + a) (by omega)
                have hc256 : (l.getD (K + a) 0).toNat < 256 := UInt8.toNat_lt _
                unfold fitsGo at hI'
                generalize (l.getD (K + a) 0).toNat = C at *
                have hwu : IntKind.u8.wrap ((C : Int) - 48) = (((C + 208) % 256 : Nat) : Int) := by rw [IntKind.wrap_u8]; omega
                have hd256 : (C + 208) % 256 < 256 := Nat.mod_lt _ (by decide)
                generalize (C + 208) % 256 = DD at *
                have hw5 : IntKind.i64.wrap (10 * (x : Int) + (DD : Int)) = 10 * (x : Int) + (DD : Int) := by rw [IntKind.wrap_i64]; omega
                have hKl : K + a < l.length := by omega
                have hKa : K + a + 1 ≤ K + N := by omega
                have hKn : K + a < K + N := by omega
                have hw6 : IntKind.i64.wrap (((K + a : Nat) : Int) + 1) = ((K + a + 1 : Nat) : Int) := by rw [IntKind.wrap_i64]; omega
                by_cases hgt : 999 < 10 * x + DD
                · rw [if_pos hgt] at hI'
                  have d2 : decide (10 * (x : Int) + (DD : Int) > 999) = true := decide_eq_true (by omega)
                  obtain rfl := hR1.out hI'
                  clear hR1 hR2 hI' hBh
                  generalize K + a = KA at *
                  generalize K + N = KN at *
                  go_wp2
                  go_ret
                  exact ⟨rfl, rfl⟩
                · rw [if_neg hgt] at hI'
                  have d2 : decide (10 * (x : Int) + (DD : Int) > 999) = false := decide_eq_false (by omega)
                  have hI2 : Hid _ := hI'
                  have hrel2 : Hid (∀ v : Int, v = ((K + a + 1 : Nat) : Int) → ∃ x' a' : Nat, Value.int .i64 (10 * (x : Int) + (DD : Int)) = .int .i64 x' ∧ Value.int .i64 v = .int .i64 ((K + a' : Nat) : Int) ∧ x' ≤ 999 ∧ a' ≤ N ∧ Hid (FF = fitsGo x' (((l.drop K).take N).drop a'))) := by
                    intro v hv
                    exact ⟨10 * x + DD, a + 1, by congr 1, by rw [hv]; rfl, by omega, by omega, hI2.out⟩
                  have hms : Hid (K + N - (K + a + 1) < K + N - (K + a)) := by show _ < _; omega
                  clear hR1 hR2 hI' hBh hI2
                  generalize K + a + 1 = KB at *
                  generalize K + a = KA at *
                  generalize K + N = KN at *
                  go_wp2
                  refine ⟨hrel2.out _ (by first | rfl | omega), by simp [intOf]; first | exact hms.out | omega⟩
              · obtain rfl : a = N := by omega
                have d1 : decide (((K + a : Nat) : Int) < ((K + a : Nat) : Int)) = false := decide_eq_false (by omega)
                have hnil : ((l.drop K).take a).drop a = [] := List.drop_eq_nil_of_le (by rw [List.length_take]; omega)
                rw [hnil] at hI'
                have hRv := hR2.out hN0 hI'
                have hw7 : IntKind.i64.wrap (((K + a : Nat) : Int) - (P : Int)) = R := by
                  obtain ⟨_, _, _⟩ := hX.out
                  rw [hRv, IntKind.wrap_i64]; omega
                clear hR1 hR2 hI' hBh hnil hRv
                generalize K + a = KN at *
                go_wp2
                go_ret
                exact ⟨rfl, rfl⟩
        · have hv1' := hv1.out
          have hE' := hE.out
          clear hv1 hE
          have e3 : ((A1 : Int) == 43) = false := by rw [beq_eq_false_iff_ne]; omega
          have e4 : ((A1 : Int) == 45) = false := by rw [beq_eq_false_iff_ne]; omega
          rw [if_neg (fun h => h.elim hsg1 hsg2)] at hE'
          obtain rfl : K = Q := by
            obtain ⟨_, _, _⟩ := hX.out
            omega
          clear hv1' hsg1 hsg2 hE'
          go_wp2_with fail
          refine Calls.mono ka1.out ?_
          rintro e w2 ⟨rfl, rfl⟩
          go_wp2_with fail
          refine Calls.mono ka1.out ?_
          rintro e w2 ⟨rfl, rfl⟩
          go_wp2_with fail
          refine Calls.mono kd.out ?_
          rintro e w2 ⟨rfl, rfl⟩
          clear kd ka1
          by_cases hN0 : N = 0
          · obtain rfl := hR0.out hN0
            subst hN0
            clear hR0 hR1 hR2 hBh hFF
            go_wp2
            go_ret
            exact ⟨rfl, rfl⟩
          · have dN : ((N : Int) == 0) = false := by rw [beq_eq_false_iff_ne]; omega
            have hsz : K + N ≤ l.length := by have := hsl.out; omega
            have hwN : IntKind.i64.wrap ((K : Int) + (N : Int)) = ((K + N : Nat) : Int) := by rw [IntKind.wrap_i64]; omega
            clear hR0
            go_wp2
            go_loop [11, 12] (fun vv vj => ∃ x a : Nat, vv = .int .i64 x ∧ vj = .int .i64 ((K + a : Nat) : Int) ∧ x ≤ 999 ∧ a ≤ N ∧ Hid (FF = fitsGo x (((l.drop K).take N).drop a))) (fun _ vj => K + N - (intOf vj).toNat)
            case atStart => exact ⟨0, 0, rfl, rfl, by decide, Nat.zero_le _, by rw [List.drop_zero]; exact hFF.out.symm⟩
            case round =>
              obtain ⟨x, a, rfl, rfl, hx, ha, hI⟩ := hrel
              have hI' := hI.out
              clear hI hFF
              by_cases hlt : a < N
              · have d1 : decide (((K + a : Nat) : Int) < ((K + N : Nat) : Int)) = true := decide_eq_true (by omega)
                rw [take_step l K N a hlt (by omega)] at hI'
                have hc := hBh.out (K + a) (by omega)
                have hc256 : (l.getD (K + a) 0).toNat < 256 := UInt8.toNat_lt _
                unfold fitsGo at hI'
                generalize (l.getD (K + a) 0).toNat = C at *
                have hwu : IntKind.u8.wrap ((C : Int) - 48) = (((C + 208) % 256 : Nat) : Int) := by rw [IntKind.wrap_u8]; omega
                have hd256 : (C + 208) % 256 < 256 := Nat.mod_lt _ (by decide)
                generalize (C + 208) % 256 = DD at *
                have hw5 : IntKind.i64.wrap (10 * (x : Int) + (DD : Int)) = 10 * (x : Int) + (DD : Int) := by rw [IntKind.wrap_i64]; omega
                have hKl : K + a < l.length := by omega
                have hKa : K + a + 1 ≤ K + N := by omega
                have hKn : K + a < K + N := by omega
                have hw6 : IntKind.i64.wrap (((K + a : Nat) : Int) + 1) = ((K + a + 1 : Nat) : Int) := by rw [IntKind.wrap_i64]; omega
                by_cases hgt : 999 < 10 * x + DD
                · rw [if_pos hgt] at hI'
                  have d2 : decide (10 * (x : Int) + (DD : Int) > 999) = true := decide_eq_true (by omega)
                  obtain rfl := hR1.out hI'
                  clear hR1 hR2 hI' hBh
                  generalize K + a = KA at *
                  generalize K + N = KN at *
                  go_wp2
                  go_ret
                  exact ⟨rfl, rfl⟩
                · rw [if_neg hgt] at hI'
                  have d2 : decide (10 * (x : Int) + (DD : Int) > 999) = false := decide_eq_false (by omega)
                  have hI2 : Hid _ := hI'
                  have hrel2 : Hid (∀ v : Int, v = ((K + a + 1 : Nat) : Int) → ∃ x' a' : Nat, Value.int .i64 (10 * (x : Int) + (DD : Int)) = .int .i64 x' ∧ Value.int .i64 v = .int .i64 ((K + a' : Nat) : Int) ∧ x' ≤ 999 ∧ a' ≤ N ∧ Hid (FF = fitsGo x' (((l.drop K).take N).drop a'))) := by
                    intro v hv
                    exact ⟨10 * x + DD, a + 1, by congr 1, by rw [hv]; rfl, by omega, by omega, hI2.out⟩
                  have hms : Hid (K + N - (K + a + 1) < K + N - (K + a)) := by show _ < _; omega
                  clear hR1 hR2 hI' hBh hI2
                  generalize K + a + 1 = KB at *
                  generalize K + a = KA at *
                  generalize K + N = KN at *
                  go_wp2
                  refine ⟨hrel2.out _ (by first | rfl | omega), by simp [intOf]; first | exact hms.out | omega⟩
              · obtain rfl : a = N := by omega
                have d1 : decide (((K + a : Nat) : Int) < ((K + a : Nat) : Int)) = false := decide_eq_false (by omega)
                have hnil : ((l.drop K).take a).drop a = [] := List.drop_eq_nil_of_le (by rw [List.length_take]; omega)
                rw [hnil] at hI'
                have hRv := hR2.out hN0 hI'
                have hw7 : IntKind.i64.wrap (((K + a : Nat) : Int) - (P : Int)) = R := by
                  obtain ⟨_, _, _⟩ := hX.out
                  rw [hRv, IntKind.wrap_i64]; omega
                clear hR1 hR2 hI' hBh hnil hRv
                generalize K + a = KN at *
                go_wp2
                go_ret
                exact ⟨rfl, rfl⟩
    · have e1 : ((A : Int) != s) = true := by simp; omega
      have e2 : ((A : Int) != g) = false := by simp; omega
      clear hsm hv hn
      go_enter Tryz.func103, Tryz.ntmps103
      go_wp2_with fail
      refine Calls.mono ka.out ?_
      rintro e w2 ⟨rfl, rfl⟩
      go_wp2_with fail
      refine Calls.mono ka.out ?_
      rintro e w2 ⟨rfl, rfl⟩
      clear ka
      by_cases hsg1 : byteAt l Q = 43
      · have hv1' := hv1.out
        have hE' := hE.out
        clear hv1 hE
        have e3 : ((A1 : Int) == 43) = true := by rw [beq_iff_eq]; omega
        rw [if_pos (.inl hsg1)] at hE'
        have hw2 : IntKind.i64.wrap ((Q : Int) + 1) = (K : Int) := by
          obtain ⟨_, _, _⟩ := hX.out
          rw [IntKind.wrap_i64]; omega
        clear hv1' hsg1 hE'
        go_wp2_with fail
        refine Calls.mono ka1.out ?_
        rintro e w2 ⟨rfl, rfl⟩
        go_wp2_with fail
        refine Calls.mono kd.out ?_
        rintro e w2 ⟨rfl, rfl⟩
        clear kd ka1
        by_cases hN0 : N = 0
        · obtain rfl := hR0.out hN0
          subst hN0
          clear hR0 hR1 hR2 hBh hFF
          go_wp2
          go_ret
          exact ⟨rfl, rfl⟩
        · have dN : ((N : Int) == 0) = false := by rw [beq_eq_false_iff_ne]; omega
          have hsz : K + N ≤ l.length := by have := hsl.out; omega
          have hwN : IntKind.i64.wrap ((K : Int) + (N : Int)) = ((K + N : Nat) : Int) := by rw [IntKind.wrap_i64]; omega
          clear hR0
          go_wp2
          go_loop [11, 12] (fun vv vj => ∃ x a : Nat, vv = .int .i64 x ∧ vj = .int .i64 ((K + a : Nat) : Int) ∧ x ≤ 999 ∧ a ≤ N ∧ Hid (FF = fitsGo x (((l.drop K).take N).drop a))) (fun _ vj => K + N - (intOf vj).toNat)
          case atStart => exact ⟨0, 0, rfl, rfl, by decide, Nat.zero_le _, by rw [List.drop_zero]; exact hFF.out.symm⟩
          case round =>
            obtain ⟨x, a, rfl, rfl, hx, ha, hI⟩ := hrel
            have hI' := hI.out
            clear hI hFF
            by_cases hlt : a < N
            · have d1 : decide (((K + a : Nat) : Int) < ((K + N : Nat) : Int)) = true := decide_eq_true (by omega)
              rw [take_step l K N a hlt (by omega)] at hI'
              have hc := hBh.out (K + a) (by omega)
              have hc256 : (l.getD (K + a) 0).toNat < 256 := UInt8.toNat_lt _
              unfold fitsGo at hI'
              generalize (l.getD (K + a) 0).toNat = C at *
              have hwu : IntKind.u8.wrap ((C : Int) - 48) = (((C + 208) % 256 : Nat) : Int) := by rw [IntKind.wrap_u8]; omega
              have hd256 : (C + 208) % 256 < 256 := Nat.mod_lt _ (by decide)
              generalize (C + 208) % 256 = DD at *
              have hw5 : IntKind.i64.wrap (10 * (x : Int) + (DD : Int)) = 10 * (x : Int) + (DD : Int) := by rw [IntKind.wrap_i64]; omega
              have hKl : K + a < l.length := by omega
              have hKa : K + a + 1 ≤ K + N := by omega
              have hKn : K + a < K + N := by omega
              have hw6 : IntKind.i64.wrap (((K + a : Nat) : Int) + 1) = ((K + a + 1 : Nat) : Int) := by rw [IntKind.wrap_i64]; omega
              by_cases hgt : 999 < 10 * x + DD
              · rw [if_pos hgt] at hI'
                have d2 : decide (10 * (x : Int) + (DD : Int) > 999) = true := decide_eq_true (by omega)
                obtain rfl := hR1.out hI'
                clear hR1 hR2 hI' hBh
                generalize K + a = KA at *
                generalize K + N = KN at *
                go_wp2
                go_ret
                exact ⟨rfl, rfl⟩
              · rw [if_neg hgt] at hI'
                have d2 : decide (10 * (x : Int) + (DD : Int) > 999) = false := decide_eq_false (by omega)
                have hI2 : Hid _ := hI'
                have hrel2 : Hid (∀ v : Int, v = ((K + a + 1 : Nat) : Int) → ∃ x' a' : Nat, Value.int .i64 (10 * (x : Int) + (DD : Int)) = .int .i64 x' ∧ Value.int .i64 v = .int .i64 ((K + a' : Nat) : Int) ∧ x' ≤ 999 ∧ a' ≤ N ∧ Hid (FF = fitsGo x' (((l.drop K).take N).drop a'))) := by
                  intro v hv
                  exact ⟨10 * x + DD, a + 1, by congr 1, by rw [hv]; rfl, by omega, by omega, hI2.out⟩
                have hms : Hid (K + N - (K + a + 1) < K + N - (K + a)) := by show _ < _; omega
                clear hR1 hR2 hI' hBh hI2
                generalize K + a + 1 = KB at *
                generalize K + a = KA at *
                generalize K + N = KN at *
                go_wp2
                refine ⟨hrel2.out _ (by first | rfl | omega), by simp [intOf]; first | exact hms.out | omega⟩
            · obtain rfl : a = N := by omega
              have d1 : decide (((K + a : Nat) : Int) < ((K + a : Nat) : Int)) = false := decide_eq_false (by omega)
              have hnil : ((l.drop K).take a).drop a = [] := List.drop_eq_nil_of_le (by rw [List.length_take]; omega)
              rw [hnil] at hI'
              have hRv := hR2.out hN0 hI'
              have hw7 : IntKind.i64.wrap (((K + a : Nat) : Int) - (P : Int)) = R := by
                obtain ⟨_, _, _⟩ := hX.out
                rw [hRv, IntKind.wrap_i64]; omega
              clear hR1 hR2 hI' hBh hnil hRv
              generalize K + a = KN at *
              go_wp2
              go_ret
              exact ⟨rfl, rfl⟩
      · by_cases hsg2 : byteAt l Q = 45
        · have hv1' := hv1.out
          have hE' := hE.out
          clear hv1 hE
          have e3 : ((A1 : Int) == 43) = false := by rw [beq_eq_false_iff_ne]; omega
          have e4 : ((A1 : Int) == 45) = true := by rw [beq_iff_eq]; omega
          rw [if_pos (.inr hsg2)] at hE'
          have hw2 : IntKind.i64.wrap ((Q : Int) + 1) = (K : Int) := by
            obtain ⟨_, _, _⟩ := hX.out
            rw [IntKind.wrap_i64]; omega
          clear hv1' hsg1 hsg2 hE'
          go_wp2_with fail
          refine Calls.mono ka1.out ?_
          rintro e w2 ⟨rfl, rfl⟩
          go_wp2_with fail
          refine Calls.mono ka1.out ?_
          rintro e w2 ⟨rfl, rfl⟩
          go_wp2_with fail
          refine Calls.mono kd.out ?_
          rintro e w2 ⟨rfl, rfl⟩
          clear kd ka1
          by_cases hN0 : N = 0
          · obtain rfl := hR0.out hN0
            subst hN0
            clear hR0 hR1 hR2 hBh hFF
            go_wp2
            go_ret
            exact ⟨rfl, rfl⟩
          · have dN : ((N : Int) == 0) = false := by rw [beq_eq_false_iff_ne]; omega
            have hsz : K + N ≤ l.length := by have := hsl.out; omega
            have hwN : IntKind.i64.wrap ((K : Int) + (N : Int)) = ((K + N : Nat) : Int) := by rw [IntKind.wrap_i64]; omega
            clear hR0
            go_wp2
            go_loop [11, 12] (fun vv vj => ∃ x a : Nat, vv = .int .i64 x ∧ vj = .int .i64 ((K + a : Nat) : Int) ∧ x ≤ 999 ∧ a ≤ N ∧ Hid (FF = fitsGo x (((l.drop K).take N).drop a))) (fun _ vj => K + N - (intOf vj).toNat)
            case atStart => exact ⟨0, 0, rfl, rfl, by decide, Nat.zero_le _, by rw [List.drop_zero]; exact hFF.out.symm⟩
            case round =>
              obtain ⟨x, a, rfl, rfl, hx, ha, hI⟩ := hrel
              have hI' := hI.out
              clear hI hFF
              by_cases hlt : a < N
              · have d1 : decide (((K + a : Nat) : Int) < ((K + N : Nat) : Int)) = true := decide_eq_true (by omega)
                rw [take_step l K N a hlt (by omega)] at hI'
                have hc := hBh.out (K + a) (by omega)
                have hc256 : (l.getD (K + a) 0).toNat < 256 := UInt8.toNat_lt _
                unfold fitsGo at hI'
                generalize (l.getD (K + a) 0).toNat = C at *
                have hwu : IntKind.u8.wrap ((C : Int) - 48) = (((C + 208) % 256 : Nat) : Int) := by rw [IntKind.wrap_u8]; omega
                have hd256 : (C + 208) % 256 < 256 := Nat.mod_lt _ (by decide)
                generalize (C + 208) % 256 = DD at *
                have hw5 : IntKind.i64.wrap (10 * (x : Int) + (DD : Int)) = 10 * (x : Int) + (DD : Int) := by rw [IntKind.wrap_i64]; omega
                have hKl : K + a < l.length := by omega
                have hKa : K + a + 1 ≤ K + N := by omega
                have hKn : K + a < K + N := by omega
                have hw6 : IntKind.i64.wrap (((K + a : Nat) : Int) + 1) = ((K + a + 1 : Nat) : Int) := by rw [IntKind.wrap_i64]; omega
                by_cases hgt : 999 < 10 * x + DD
                · rw [if_pos hgt] at hI'
                  have d2 : decide (10 * (x : Int) + (DD : Int) > 999) = true := decide_eq_true (by omega)
                  obtain rfl := hR1.out hI'
                  clear hR1 hR2 hI' hBh
                  generalize K + a = KA at *
                  generalize K + N = KN at *
                  go_wp2
                  go_ret
                  exact ⟨rfl, rfl⟩
                · rw [if_neg hgt] at hI'
                  have d2 : decide (10 * (x : Int) + (DD : Int) > 999) = false := decide_eq_false (by omega)
                  have hI2 : Hid _ := hI'
                  have hrel2 : Hid (∀ v : Int, v = ((K + a + 1 : Nat) : Int) → ∃ x' a' : Nat, Value.int .i64 (10 * (x : Int) + (DD : Int)) = .int .i64 x' ∧ Value.int .i64 v = .int .i64 ((K + a' : Nat) : Int) ∧ x' ≤ 999 ∧ a' ≤ N ∧ Hid (FF = fitsGo x' (((l.drop K).take N).drop a'))) := by
                    intro v hv
                    exact ⟨10 * x + DD, a + 1, by congr 1, by rw [hv]; rfl, by omega, by omega, hI2.out⟩
                  have hms : Hid (K + N - (K + a + 1) < K + N - (K + a)) := by show _ < _; omega
                  clear hR1 hR2 hI' hBh hI2
                  generalize K + a + 1 = KB at *
                  generalize K + a = KA at *
                  generalize K + N = KN at *
                  go_wp2
                  refine ⟨hrel2.out _ (by first | rfl | omega), by simp [intOf]; first | exact hms.out | omega⟩
              · obtain rfl : a = N := by omega
                have d1 : decide (((K + a : Nat) : Int) < ((K + a : Nat) : Int)) = false := decide_eq_false (by omega)
                have hnil : ((l.drop K).take a).drop a = [] := List.drop_eq_nil_of_le (by rw [List.length_take]; omega)
                rw [hnil] at hI'
                have hRv := hR2.out hN0 hI'
                have hw7 : IntKind.i64.wrap (((K + a : Nat) : Int) - (P : Int)) = R := by
                  obtain ⟨_, _, _⟩ := hX.out
                  rw [hRv, IntKind.wrap_i64]; omega
                clear hR1 hR2 hI' hBh hnil hRv
                generalize K + a = KN at *
                go_wp2
                go_ret
                exact ⟨rfl, rfl⟩
        · have hv1' := hv1.out
          have hE' := hE.out
          clear hv1 hE
          have e3 : ((A1 : Int) == 43) = false := by rw [beq_eq_false_iff_ne]; omega
          have e4 : ((A1 : Int) == 45) = false := by rw [beq_eq_false_iff_ne]; omega
          rw [if_neg (fun h => h.elim hsg1 hsg2)] at hE'
          obtain rfl : K = Q := by
            obtain ⟨_, _, _⟩ := hX.out
            omega
          clear hv1' hsg1 hsg2 hE'
          go_wp2_with fail
          refine Calls.mono ka1.out ?_
          rintro e w2 ⟨rfl, rfl⟩
          go_wp2_with fail
          refine Calls.mono ka1.out ?_
          rintro e w2 ⟨rfl, rfl⟩
          go_wp2_with fail
          refine Calls.mono kd.out ?_
          rintro e w2 ⟨rfl, rfl⟩
          clear kd ka1
          by_cases hN0 : N = 0
          · obtain rfl := hR0.out hN0
            subst hN0
            clear hR0 hR1 hR2 hBh hFF
            go_wp2
            go_ret
            exact ⟨rfl, rfl⟩
          · have dN : ((N : Int) == 0) = false := by rw [beq_eq_false_iff_ne]; omega
            have hsz : K + N ≤ l.length := by have := hsl.out; omega
            have hwN : IntKind.i64.wrap ((K : Int) + (N : Int)) = ((K + N : Nat) : Int) := by rw [IntKind.wrap_i64]; omega
            clear hR0
            go_wp2
            go_loop [11, 12] (fun vv vj => ∃ x a : Nat, vv = .int .i64 x ∧ vj = .int .i64 ((K + a : Nat) : Int) ∧ x ≤ 999 ∧ a ≤ N ∧ Hid (FF = fitsGo x (((l.drop K).take N).drop a))) (fun _ vj => K + N - (intOf vj).toNat)
            case atStart => exact ⟨0, 0, rfl, rfl, by decide, Nat.zero_le _, by rw [List.drop_zero]; exact hFF.out.symm⟩
            case round =>
              obtain ⟨x, a, rfl, rfl, hx, ha, hI⟩ := hrel
              have hI' := hI.out
              clear hI hFF
              by_cases hlt : a < N
              · have d1 : decide (((K + a : Nat) : Int) < ((K + N : Nat) : Int)) = true := decide_eq_true (by omega)
                rw [take_step l K N a hlt (by omega)] at hI'
                have hc := hBh.out (K + a) (by omega)
                have hc256 : (l.getD (K + a) 0).toNat < 256 := UInt8.toNat_lt _
                unfold fitsGo at hI'
                generalize (l.getD (K + a) 0).toNat = C at *
                have hwu : IntKind.u8.wrap ((C : Int) - 48) = (((C + 208) % 256 : Nat) : Int) := by rw [IntKind.wrap_u8]; omega
                have hd256 : (C + 208) % 256 < 256 := Nat.mod_lt _ (by decide)
                generalize (C + 208) % 256 = DD at *
                have hw5 : IntKind.i64.wrap (10 * (x : Int) + (DD : Int)) = 10 * (x : Int) + (DD : Int) := by rw [IntKind.wrap_i64]; omega
                have hKl : K + a < l.length := by omega
                have hKa : K + a + 1 ≤ K + N := by omega
                have hKn : K + a < K + N := by omega
                have hw6 : IntKind.i64.wrap (((K + a : Nat) : Int) + 1) = ((K + a + 1 : Nat) : Int) := by rw [IntKind.wrap_i64]; omega
                by_cases hgt : 999 < 10 * x + DD
                · rw [if_pos hgt] at hI'
                  have d2 : decide (10 * (x : Int) + (DD : Int) > 999) = true := decide_eq_true (by omega)
                  obtain rfl := hR1.out hI'
                  clear hR1 hR2 hI' hBh
                  generalize K + a = KA at *
                  generalize K + N = KN at *
                  go_wp2
                  go_ret
                  exact ⟨rfl, rfl⟩
                · rw [if_neg hgt] at hI'
                  have d2 : decide (10 * (x : Int) + (DD : Int) > 999) = false := decide_eq_false (by omega)
                  have hI2 : Hid _ := hI'
                  have hrel2 : Hid (∀ v : Int, v = ((K + a + 1 : Nat) : Int) → ∃ x' a' : Nat, Value.int .i64 (10 * (x : Int) + (DD : Int)) = .int .i64 x' ∧ Value.int .i64 v = .int .i64 ((K + a' : Nat) : Int) ∧ x' ≤ 999 ∧ a' ≤ N ∧ Hid (FF = fitsGo x' (((l.drop K).take N).drop a'))) := by
                    intro v hv
                    exact ⟨10 * x + DD, a + 1, by congr 1, by rw [hv]; rfl, by omega, by omega, hI2.out⟩
                  have hms : Hid (K + N - (K + a + 1) < K + N - (K + a)) := by show _ < _; omega
                  clear hR1 hR2 hI' hBh hI2
                  generalize K + a + 1 = KB at *
                  generalize K + a = KA at *
                  generalize K + N = KN at *
                  go_wp2
                  refine ⟨hrel2.out _ (by first | rfl | omega), by simp [intOf]; first | exact hms.out | omega⟩
              · obtain rfl : a = N := by omega
                have d1 : decide (((K + a : Nat) : Int) < ((K + a : Nat) : Int)) = false := decide_eq_false (by omega)
                have hnil : ((l.drop K).take a).drop a = [] := List.drop_eq_nil_of_le (by rw [List.length_take]; omega)
                rw [hnil] at hI'
                have hRv := hR2.out hN0 hI'
                have hw7 : IntKind.i64.wrap (((K + a : Nat) : Int) - (P : Int)) = R := by
                  obtain ⟨_, _, _⟩ := hX.out
                  rw [hRv, IntKind.wrap_i64]; omega
                clear hR1 hR2 hI' hBh hnil hRv
                generalize K + a = KN at *
                go_wp2
                go_ret
                exact ⟨rfl, rfl⟩
end Nn
end Go.Proofs.YthiiglhecajhbaaGreat
namespace Go.Proofs.YthiiglhecajhbaaGreat
namespace Nn
open Go.RowKit
attribute [local go_sem ↓] Go.wp_at_zero Go.wp_at_succ
theorem expR_cases (L : List UInt8) (M : Nat) (s g : Int) : (expR L M s g = 0 ∧ ¬ (byteAt L M = s ∨ byteAt L M = g)) ∨ (expR L M s g = -1 ∧ (byteAt L M = s ∨ byteAt L M = g) ∧ expM L M = 0) ∨ (∃ q : Nat, 0 < q ∧ expR L M s g = q ∧ (byteAt L M = s ∨ byteAt L M = g) ∧ expM L M = M + q) := by
  unfold expR
  by_cases h : byteAt L M ≠ s ∧ byteAt L M ≠ g
  · rw [if_pos h]
    exact .inl ⟨rfl, fun h2 => h2.elim h.1 h.2⟩
  · rw [if_neg h]
    have hor : byteAt L M = s ∨ byteAt L M = g := by
      rcases Int.decEq (byteAt L M) s with h1 | h1
      · rcases Int.decEq (byteAt L M) g with h2 | h2
        · exact absurd ⟨h1, h2⟩ h
        · exact .inr h2
      · exact .inl h1
    by_cases he : expM L M = 0
    · rw [if_pos he]
      exact .inr (.inl ⟨rfl, hor, he⟩)
    · rw [if_neg he]
      obtain ⟨h1, _⟩ := exp_gt L M _ rfl (by omega)
      exact .inr (.inr ⟨expM L M - M, by omega, rfl, hor, by omega⟩)
theorem exponent_at (w : World) (ad : Addr) (cap i P : Nat) (l : List UInt8) (hB : BytesAt w ad l) (hiP : i ≤ P) (hP : P ≤ l.length) (hl : l.length < 1000000) (s g : Nat) (hs0 : 0 < s) (hg0 : 0 < g) (hsg : s ≠ g) : Calls Tryz.prog 103 #[.slice (some ad) l.length cap, .int .i64 (P : Int), .int .u8 s, .int .u8 g] w fun e w' => e = .returned (.int .i64 (expR (l.drop i) (P - i) s g)) ∧ w' = w := by
  have := exponent_any w ad cap i (P - i) l hB (by omega) hl s g hs0 hg0 hsg
  rw [show i + (P - i) = P by omega] at this
  exact this
set_option maxRecDepth 100000 in
set_option maxHeartbeats 32000000 in
theorem number_any (w : World) (ad : Addr) (cap i : Nat) (l : List UInt8) (hB : BytesAt w ad l) (hi : i < l.length) (hl : l.length < 1000000) : Calls Tryz.prog 68 #[.slice (some ad) l.length cap, .int .i64 i] w fun e w' => ∃ K : Int, e = .returned (.tuple #[.int .i64 K, .int .i64 ((numberM (l.drop i)).2 : Nat)]) ∧ ((numberM (l.drop i)).2 ≠ 0 → K = (numberM (l.drop i)).1) ∧ w' = w := by
  obtain ⟨NR, hNR⟩ : ∃ NR, NR = (numberM (l.drop i)).2 := ⟨_, rfl⟩
  obtain ⟨NK, hNK⟩ : ∃ NK, NK = (numberM (l.drop i)).1 := ⟨_, rfl⟩
  rw [← hNR, ← hNK]
  obtain ⟨L, hL⟩ : ∃ L, L = l.drop i := ⟨_, rfl⟩
  rw [← hL] at hNR hNK
  obtain ⟨Y1, hY1⟩ : ∃ Y1, Y1 = (basedM L).1 := ⟨_, rfl⟩
  obtain ⟨Y2, hY2⟩ : ∃ Y2, Y2 = (basedM L).2 := ⟨_, rfl⟩
  have hY : Hid (basedM L = (Y1, Y2)) := by show _ = _; rw [hY1, hY2]
  have hz : Hid (Y2 = 0 → NR = 0) := fun h => by rw [hNR]; exact number_zero L (by rw [← hY2]; exact h)
  have hnum : Hid ((NK, NR) = if inNameB (byteAt L Y2) = true ∨ byteAt L Y2 = 46 then (Y1, 0) else (Y1, Y2)) := by
    show _ = _
    have h1 : (NK, NR) = numberM L := by rw [hNR, hNK]
    rw [h1]
    unfold numberM
    rw [← hY1, ← hY2]
    split
    · rfl
    · rw [hY.out]
  clear hNR hNK hY1 hY2
  have hYl : Hid (Y2 ≤ l.length) := by
    have := basedM_le L
    rw [hY.out, hL, List.length_drop] at this
    show Y2 ≤ l.length
    simp only at this
    omega
  obtain ⟨IY, hIY⟩ : ∃ IY, IY = i + Y2 := ⟨_, rfl⟩
  replace hIY : Hid _ := hIY
  replace hL : Hid _ := hL
  have hc0 := hB i hi
  have ka1 : Hid _ := at_any w ad cap (i + 1) l hB (by omega) (by omega)
  have hC0 : Hid (byteAt L 0 = (((l.getD i 0).toNat : Nat) : Int)) := by show _ = _; rw [hL.out, byteAt_drop, Nat.add_zero, byteAt_get l i hi]
  have hC1 : Hid ((((l.getD (i + 1) 0).toNat : Nat) : Int) = byteAt L 1 ∨ (byteAt L 1 = -1 ∧ (l.getD (i + 1) 0).toNat = 0)) := by
    have := atv l (i + 1)
    show _ ∨ _
    rw [hL.out, byteAt_drop]
    exact this
  generalize (l.getD i 0).toNat = C0 at *
  generalize (l.getD (i + 1) 0).toNat = C1 at *
  have hw1 : IntKind.i64.wrap ((i : Int) + 1) = ((i + 1 : Nat) : Int) := by rw [IntKind.wrap_i64]; omega
  replace hB : Hid _ := hB
  go_enter Tryz.func68, Tryz.ntmps68
  go_wp2_with fail
  refine Calls.mono ka1.out ?_
  rintro e w2 ⟨rfl, rfl⟩
  clear ka1 hw1
  go_upto_block 0 with fail
  go_cut [6, 7] from 9 to 158 (fun vk vn wc => vk = .int .i64 Y1 ∧ vn = .int .i64 IY ∧ wc = w2)
  case rest =>
    obtain ⟨rfl, rfl, rfl⟩ := hcut
    have hYle : Y2 ≤ L.length := by
      have := basedM_le L
      rw [hY.out] at this
      exact this
    have hLl : L.length = l.length - i := by rw [hL.out, List.length_drop]
    have hIl : IY ≤ l.length := by have := hIY.out; omega
    have kat : Hid _ := at_any wc ad cap IY l hB.out (by omega) (by omega)
    have hv := atv l IY
    have hbv : byteAt L Y2 = byteAt l IY := by rw [hL.out, byteAt_drop, hIY.out]
    have hn := hnum.out
    rw [hbv] at hn
    generalize (l.getD IY 0).toNat = AT at *
    have klt : Hid _ := letter_any AT wc
    have kdg : Hid _ := digit_any AT wc
    have hin : isLetterB (AT : Int) = true ∨ isDigitB (AT : Int) = true ∨ AT = 46 ↔ inNameB (byteAt l IY) = true ∨ byteAt l IY = 46 := by
      unfold inNameB
      rw [Bool.or_eq_true]
      rcases hv with h | ⟨h1, h2⟩
      · rw [h]
        have : AT = 46 ↔ byteAt l IY = 46 := by omega
        rw [this]
        exact or_assoc.symm
      · rw [h1, h2]
        decide
    clear hv hbv hYle hLl hnum hB hz hY
    by_cases c1 : isLetterB (AT : Int) = true
    · rw [c1] at klt
      rw [if_pos (hin.1 (.inl c1))] at hn
      obtain rfl : NR = 0 := (Prod.mk.inj hn).2
      clear hn hin c1
      go_wp2_with fail
      refine Calls.mono kat.out ?_
      rintro e w2 ⟨rfl, rfl⟩
      go_wp2_with fail
      refine Calls.mono klt.out ?_
      rintro e w2 ⟨rfl, rfl⟩
      go_wp2
      exact bodyPost_ret (v := .tuple #[.int .i64 0, .int .i64 0]) (by simp [results, Tryz.results68, go_sem]) rfl ⟨0, rfl, fun h => absurd rfl h, rfl⟩
    · by_cases c2 : isDigitB (AT : Int) = true
      · rw [show isLetterB (AT : Int) = false by simpa using c1] at klt
        rw [c2] at kdg
        rw [if_pos (hin.1 (.inr (.inl c2)))] at hn
        obtain rfl : NR = 0 := (Prod.mk.inj hn).2
        clear hn hin c1 c2
        go_wp2_with fail
        refine Calls.mono kat.out ?_
        rintro e w2 ⟨rfl, rfl⟩
        go_wp2_with fail
        refine Calls.mono klt.out ?_
        rintro e w2 ⟨rfl, rfl⟩
        go_wp2_with fail
        refine Calls.mono kat.out ?_
        rintro e w2 ⟨rfl, rfl⟩
        go_wp2_with fail
        refine Calls.mono kdg.out ?_
        rintro e w2 ⟨rfl, rfl⟩
        go_wp2
        exact bodyPost_ret (v := .tuple #[.int .i64 0, .int .i64 0]) (by simp [results, Tryz.results68, go_sem]) rfl ⟨0, rfl, fun h => absurd rfl h, rfl⟩
      · by_cases c3 : AT = 46
        · rw [show isLetterB (AT : Int) = false by simpa using c1] at klt
          rw [show isDigitB (AT : Int) = false by simpa using c2] at kdg
          have e46 : ((AT : Int) == 46) = true := by rw [beq_iff_eq]; omega
          rw [if_pos (hin.1 (.inr (.inr c3)))] at hn
          obtain rfl : NR = 0 := (Prod.mk.inj hn).2
          clear hn hin c1 c2 c3
          go_wp2_with fail
          refine Calls.mono kat.out ?_
          rintro e w2 ⟨rfl, rfl⟩
          go_wp2_with fail
          refine Calls.mono klt.out ?_
          rintro e w2 ⟨rfl, rfl⟩
          go_wp2_with fail
          refine Calls.mono kat.out ?_
          rintro e w2 ⟨rfl, rfl⟩
          go_wp2_with fail
          refine Calls.mono kdg.out ?_
          rintro e w2 ⟨rfl, rfl⟩
          go_wp2_with fail
          refine Calls.mono kat.out ?_
          rintro e w2 ⟨rfl, rfl⟩
          go_wp2
          exact bodyPost_ret (v := .tuple #[.int .i64 0, .int .i64 0]) (by simp [results, Tryz.results68, go_sem]) rfl ⟨0, rfl, fun h => absurd rfl h, rfl⟩
        · have hnn : ¬ (inNameB (byteAt l IY) = true ∨ byteAt l IY = 46) := fun h => by
            rcases hin.2 h with h | h | h
            · exact c1 h
            · exact c2 h
            · exact c3 h
          rw [if_neg hnn] at hn
          obtain ⟨hnk, hnr⟩ := Prod.mk.inj hn
          have hwr : IntKind.i64.wrap ((IY : Int) - (i : Int)) = (NR : Int) := by
            have := hIY.out
            rw [IntKind.wrap_i64]; omega
          have e46 : ((AT : Int) == 46) = false := by rw [beq_eq_false_iff_ne]; omega
          rw [show isLetterB (AT : Int) = false by simpa using c1] at klt
          rw [show isDigitB (AT : Int) = false by simpa using c2] at kdg
          clear hn hin hnn c1 c2 c3 hnr
          go_wp2_with fail
          refine Calls.mono kat.out ?_
          rintro e w2 ⟨rfl, rfl⟩
          go_wp2_with fail
          refine Calls.mono klt.out ?_
          rintro e w2 ⟨rfl, rfl⟩
          go_wp2_with fail
          refine Calls.mono kat.out ?_
          rintro e w2 ⟨rfl, rfl⟩
          go_wp2_with fail
          refine Calls.mono kdg.out ?_
          rintro e w2 ⟨rfl, rfl⟩
          go_wp2_with fail
          refine Calls.mono kat.out ?_
          rintro e w2 ⟨rfl, rfl⟩
          go_wp2
          exact bodyPost_ret (v := .tuple #[.int .i64 Y1, .int .i64 NR]) (by simp [results, Tryz.results68, go_sem]) rfl ⟨Y1, rfl, fun _ => hnk.symm, rfl⟩
  case first =>
    clear hnum
    by_cases hx0 : C0 = 48
    · subst hx0
      by_cases hx1 : C1 = 120
      · subst hx1
        have hb0 : byteAt L 0 = 48 := hC0.out
        have hb1 : byteAt L 1 = 120 := by have := hC1.out; omega
        have hyx := based_hex L hb0 (.inl hb1)
        rw [hY.out] at hyx
        have hlen : i + 2 ≤ l.length := by
          have h2 := len_two L (by omega)
          rw [hL.out, List.length_drop] at h2
          omega
        clear hb0 hb1 hC0 hC1
        obtain ⟨I2, hI2⟩ : ∃ I2, I2 = i + 2 := ⟨_, rfl⟩
        replace hI2 : Hid _ := hI2
        have hd2 : L.drop 2 = l.drop I2 := by rw [hL.out, List.drop_drop, hI2.out]
        have hI2l : I2 ≤ l.length := by have := hI2.out; omega
        have kd : Hid _ := digits_any w2 ad cap I2 16 l hB.out (by omega) (by omega)
        rw [digs16] at kd
        have hs1 := spanL_le isHexB (l.drop I2)
        rw [List.length_drop] at hs1
        generalize hN1 : spanL isHexB (l.drop I2) = N1 at *
        replace hs1 : Hid _ := hs1
        replace hN1 : Hid _ := hN1
        replace hd2 : Hid _ := hd2
        obtain ⟨K1, hK1⟩ : ∃ K1, K1 = I2 + N1 := ⟨_, rfl⟩
        replace hK1 : Hid _ := hK1
        have hw2 : IntKind.i64.wrap ((i : Int) + 2) = ((I2 : Nat) : Int) := by have := hI2.out; rw [IntKind.wrap_i64]; omega
        have hw3 : IntKind.i64.wrap ((I2 : Int) + (N1 : Int)) = ((K1 : Nat) : Int) := by have := hK1.out; have := hs1.out; rw [IntKind.wrap_i64]; omega
        have hK1l : K1 ≤ l.length := by have := hK1.out; have := hs1.out; omega
        have kak : Hid _ := at_any w2 ad cap K1 l hB.out (by omega) (by omega)
        have hv2 : Hid _ := atv l K1
        have hbd : Hid (byteAt (L.drop 2) N1 = byteAt l K1) := by show _ = _; rw [hd2.out, byteAt_drop, hK1.out]
        generalize (l.getD K1 0).toNat = AK at *
        by_cases hdot : byteAt l K1 = 46
        · have e46 : ((AK : Int) == 46) = true := by have := hv2.out; rw [beq_iff_eq]; omega
          have hKlt : K1 < l.length := by
            rcases Nat.lt_or_ge K1 l.length with h | h
            · exact h
            · exfalso
              unfold byteAt at hdot
              rw [List.drop_eq_nil_of_le h] at hdot
              cases hdot
          obtain ⟨K11, hK11⟩ : ∃ K11, K11 = K1 + 1 := ⟨_, rfl⟩
          replace hK11 : Hid _ := hK11
          have kd2 : Hid _ := digits_any w2 ad cap K11 16 l hB.out (by have := hK11.out; omega) (by omega)
          rw [digs16] at kd2
          have hs2 := spanL_le isHexB (l.drop K11)
          rw [List.length_drop] at hs2
          have hd3 : Hid ((L.drop 2).drop (N1 + 1) = l.drop K11) := by show _ = _; rw [hd2.out, List.drop_drop, hK11.out, hK1.out, Nat.add_assoc]
          generalize hM1 : spanL isHexB (l.drop K11) = M1 at *
          replace hs2 : Hid _ := hs2
          replace hM1 : Hid _ := hM1
          obtain ⟨O1, hO1⟩ : ∃ O1, O1 = 1 + M1 := ⟨_, rfl⟩
          replace hO1 : Hid _ := hO1
          obtain ⟨K2, hK2⟩ : ∃ K2, K2 = K1 + O1 := ⟨_, rfl⟩
          replace hK2 : Hid _ := hK2
          have hw4 : IntKind.i64.wrap ((K1 : Int) + 1) = ((K11 : Nat) : Int) := by have := hK11.out; rw [IntKind.wrap_i64]; omega
          have hw6 : IntKind.i64.wrap (1 + (M1 : Int)) = ((O1 : Nat) : Int) := by have := hO1.out; have := hs2.out; rw [IntKind.wrap_i64]; omega
          have hK2l : K2 ≤ l.length := by have := hK11.out; have := hO1.out; have := hK2.out; have := hs2.out; omega
          have hw7 : IntKind.i64.wrap ((K1 : Int) + (O1 : Int)) = ((K2 : Nat) : Int) := by have := hK2.out; rw [IntKind.wrap_i64]; omega
          obtain ⟨NN, hNN⟩ : ∃ NN, NN = N1 + M1 := ⟨_, rfl⟩
          replace hNN : Hid _ := hNN
          have hw5 : IntKind.i64.wrap ((N1 : Int) + (M1 : Int)) = ((NN : Nat) : Int) := by have := hNN.out; have := hs1.out; have := hs2.out; rw [IntKind.wrap_i64]; omega
          obtain ⟨MM, hMM⟩ : ∃ MM, MM = K2 - i := ⟨_, rfl⟩
          replace hMM : Hid _ := hMM
          have kex : Hid _ := exponent_at w2 ad cap i K2 l hB.out (by have := hI2.out; have := hK1.out; have := hK2.out; omega) (by omega) hl 112 80 (by decide) (by decide) (by decide)
          rw [← hL.out, ← hMM.out] at kex
          have hec := expR_cases L MM 112 80
          have hyd := hex_dot L N1 M1 MM (by rw [hd2.out]; exact hN1.out) (by rw [hbd.out]; exact hdot) (by rw [hd3.out]; exact hM1.out) (by have := hI2.out; have := hK1.out; have := hK2.out; have := hO1.out; have := hMM.out; omega)
          rw [hyd] at hyx
          clear hyd hbd hd2 hd3 hN1 hM1 hv2 hdot
          rw [show N1 + M1 = NN from hNN.out.symm] at hyx
          by_cases hNz : NN = 0
          · rw [if_pos hNz] at hyx
            have dNN : ((NN : Int) == 0) = true := by rw [beq_iff_eq]; omega
            clear hNz
            generalize expR L MM 112 80 = EE at *
            clear hec
            have hy2 : Y2 = 0 := by exact (Prod.mk.inj hyx).2
            obtain rfl := hz.out hy2
            clear hy2
            clear hY hB hz hyx
            go_wp2_with fail
            refine Calls.mono kd.out ?_
            rintro e w2 ⟨rfl, rfl⟩
            go_wp2_with fail
            refine Calls.mono kak.out ?_
            rintro e w2 ⟨rfl, rfl⟩
            go_wp2_with fail
            refine Calls.mono kd2.out ?_
            rintro e w2 ⟨rfl, rfl⟩
            go_wp2_with fail
            refine Calls.mono kex.out ?_
            rintro e w2 ⟨rfl, rfl⟩
            go_wp2
            exact bodyPost_ret (v := .tuple #[.int .i64 0, .int .i64 0]) (by simp [results, Tryz.results68, go_sem]) rfl ⟨0, rfl, fun h => absurd rfl h, rfl⟩
          · rw [if_neg hNz] at hyx
            have dNN : ((NN : Int) == 0) = false := by rw [beq_eq_false_iff_ne]; omega
            generalize expR L MM 112 80 = EE at *
            rcases hec with ⟨rfl, hne⟩ | ⟨rfl, hpe, hem⟩ | ⟨q, hq, rfl, hpe, hem⟩
            · rw [if_neg hne] at hyx
              clear hne
              have hy2 : Y2 = 0 := by exact (Prod.mk.inj hyx).2
              obtain rfl := hz.out hy2
              clear hy2
              clear hY hB hz hyx
              go_wp2_with fail
              refine Calls.mono kd.out ?_
              rintro e w2 ⟨rfl, rfl⟩
              go_wp2_with fail
              refine Calls.mono kak.out ?_
              rintro e w2 ⟨rfl, rfl⟩
              go_wp2_with fail
              refine Calls.mono kd2.out ?_
              rintro e w2 ⟨rfl, rfl⟩
              go_wp2_with fail
              refine Calls.mono kex.out ?_
              rintro e w2 ⟨rfl, rfl⟩
              go_wp2
              exact bodyPost_ret (v := .tuple #[.int .i64 0, .int .i64 0]) (by simp [results, Tryz.results68, go_sem]) rfl ⟨0, rfl, fun h => absurd rfl h, rfl⟩
            · rw [if_pos hpe, hem] at hyx
              clear hpe hem
              have hy2 : Y2 = 0 := by exact (Prod.mk.inj hyx).2
              obtain rfl := hz.out hy2
              clear hy2
              clear hY hB hz hyx
              go_wp2_with fail
              refine Calls.mono kd.out ?_
              rintro e w2 ⟨rfl, rfl⟩
              go_wp2_with fail
              refine Calls.mono kak.out ?_
              rintro e w2 ⟨rfl, rfl⟩
              go_wp2_with fail
              refine Calls.mono kd2.out ?_
              rintro e w2 ⟨rfl, rfl⟩
              go_wp2_with fail
              refine Calls.mono kex.out ?_
              rintro e w2 ⟨rfl, rfl⟩
              go_wp2
              exact bodyPost_ret (v := .tuple #[.int .i64 0, .int .i64 0]) (by simp [results, Tryz.results68, go_sem]) rfl ⟨0, rfl, fun h => absurd rfl h, rfl⟩
            · rw [if_pos hpe, hem] at hyx
              clear hpe hem
              have hYq : Hid (MM + q ≤ l.length) := by have h1 := (Prod.mk.inj hyx).2; have := hYl.out; show _ ≤ _; omega
              obtain ⟨K3, hK3⟩ : ∃ K3, K3 = K2 + q := ⟨_, rfl⟩
              replace hK3 : Hid _ := hK3
              have hw8 : IntKind.i64.wrap ((K2 : Int) + (q : Int)) = ((K3 : Nat) : Int) := by have := hK3.out; have := hMM.out; have := hIY.out; have := hYq.out; rw [IntKind.wrap_i64]; omega
              have dq1 : decide ((q : Int) < 0) = false := decide_eq_false (by omega)
              have dq2 : ((q : Int) == 0) = false := by rw [beq_eq_false_iff_ne]; omega
              have dq3 : decide ((q : Int) > 0) = true := decide_eq_true (by omega)
              have hY1 : Y1 = 3 := (Prod.mk.inj hyx).1
              have hIYe : IY = K3 := by have h1 := (Prod.mk.inj hyx).2; have := hIY.out; have := hK3.out; have := hMM.out; have := hI2.out; have := hK1.out; have := hK2.out; have := hO1.out; have := hs1.out; have := hs2.out; omega
              subst hY1 hIYe
              clear hY hB hz hyx
              go_wp2_with fail
              refine Calls.mono kd.out ?_
              rintro e w2 ⟨rfl, rfl⟩
              go_wp2_with fail
              refine Calls.mono kak.out ?_
              rintro e w2 ⟨rfl, rfl⟩
              go_wp2_with fail
              refine Calls.mono kd2.out ?_
              rintro e w2 ⟨rfl, rfl⟩
              go_wp2_with fail
              refine Calls.mono kex.out ?_
              rintro e w2 ⟨rfl, rfl⟩
              go_wp2
              go_meet
              all_goals first | exact ⟨rfl, rfl, rfl⟩ | (refine ⟨?_, ?_, ?_⟩ <;> first | rfl | (congr 1; omega))
        · have e46 : ((AK : Int) == 46) = false := by have := hv2.out; rw [beq_eq_false_iff_ne]; omega
          obtain ⟨MM, hMM⟩ : ∃ MM, MM = K1 - i := ⟨_, rfl⟩
          replace hMM : Hid _ := hMM
          have kex : Hid _ := exponent_at w2 ad cap i K1 l hB.out (by have := hI2.out; have := hK1.out; omega) (by omega) hl 112 80 (by decide) (by decide) (by decide)
          rw [← hL.out, ← hMM.out] at kex
          have hec := expR_cases L MM 112 80
          have hyd := hex_nodot L N1 MM (by rw [hd2.out]; exact hN1.out) (by rw [hbd.out]; exact hdot) (by have := hI2.out; have := hK1.out; have := hMM.out; omega)
          rw [hyd] at hyx
          clear hyd hbd hd2 hN1 hv2 hdot
          by_cases hNz : N1 = 0
          · rw [if_pos hNz] at hyx
            have dNN : ((N1 : Int) == 0) = true := by rw [beq_iff_eq]; omega
            clear hNz
            generalize expR L MM 112 80 = EE at *
            clear hec
            have hy2 : Y2 = 0 := by exact (Prod.mk.inj hyx).2
            obtain rfl := hz.out hy2
            clear hy2
            clear hY hB hz hyx
            go_wp2_with fail
            refine Calls.mono kd.out ?_
            rintro e w2 ⟨rfl, rfl⟩
            go_wp2_with fail
            refine Calls.mono kak.out ?_
            rintro e w2 ⟨rfl, rfl⟩
            go_wp2_with fail
            refine Calls.mono kex.out ?_
            rintro e w2 ⟨rfl, rfl⟩
            go_wp2
            exact bodyPost_ret (v := .tuple #[.int .i64 0, .int .i64 0]) (by simp [results, Tryz.results68, go_sem]) rfl ⟨0, rfl, fun h => absurd rfl h, rfl⟩
          · rw [if_neg hNz] at hyx
            have dNN : ((N1 : Int) == 0) = false := by rw [beq_eq_false_iff_ne]; omega
            generalize expR L MM 112 80 = EE at *
            rcases hec with ⟨rfl, hne⟩ | ⟨rfl, hpe, hem⟩ | ⟨q, hq, rfl, hpe, hem⟩
            · rw [if_neg hne] at hyx
              clear hne
              have hY1 : Y1 = 2 := (Prod.mk.inj hyx).1
              have hIYe : IY = K1 := by have h1 := (Prod.mk.inj hyx).2; have := hIY.out; have := hMM.out; have := hI2.out; have := hK1.out; omega
              subst hY1 hIYe
              clear hY hB hz hyx
              go_wp2_with fail
              refine Calls.mono kd.out ?_
              rintro e w2 ⟨rfl, rfl⟩
              go_wp2_with fail
              refine Calls.mono kak.out ?_
              rintro e w2 ⟨rfl, rfl⟩
              go_wp2_with fail
              refine Calls.mono kex.out ?_
              rintro e w2 ⟨rfl, rfl⟩
              go_wp2
              go_meet
              all_goals first | exact ⟨rfl, rfl, rfl⟩ | (refine ⟨?_, ?_, ?_⟩ <;> first | rfl | (congr 1; omega))
            · rw [if_pos hpe, hem] at hyx
              clear hpe hem
              have hy2 : Y2 = 0 := by exact (Prod.mk.inj hyx).2
              obtain rfl := hz.out hy2
              clear hy2
              clear hY hB hz hyx
              go_wp2_with fail
              refine Calls.mono kd.out ?_
              rintro e w2 ⟨rfl, rfl⟩
              go_wp2_with fail
              refine Calls.mono kak.out ?_
              rintro e w2 ⟨rfl, rfl⟩
              go_wp2_with fail
              refine Calls.mono kex.out ?_
              rintro e w2 ⟨rfl, rfl⟩
              go_wp2
              exact bodyPost_ret (v := .tuple #[.int .i64 0, .int .i64 0]) (by simp [results, Tryz.results68, go_sem]) rfl ⟨0, rfl, fun h => absurd rfl h, rfl⟩
            · rw [if_pos hpe, hem] at hyx
              clear hpe hem
              have hYq : Hid (MM + q ≤ l.length) := by have h1 := (Prod.mk.inj hyx).2; have := hYl.out; show _ ≤ _; omega
              obtain ⟨K3, hK3⟩ : ∃ K3, K3 = K1 + q := ⟨_, rfl⟩
              replace hK3 : Hid _ := hK3
              have hw8 : IntKind.i64.wrap ((K1 : Int) + (q : Int)) = ((K3 : Nat) : Int) := by have := hK3.out; have := hMM.out; have := hIY.out; have := hYq.out; rw [IntKind.wrap_i64]; omega
              have dq1 : decide ((q : Int) < 0) = false := decide_eq_false (by omega)
              have dq2 : ((q : Int) == 0) = false := by rw [beq_eq_false_iff_ne]; omega
              have dq3 : decide ((q : Int) > 0) = true := decide_eq_true (by omega)
              have hY1 : Y1 = 3 := (Prod.mk.inj hyx).1
              have hIYe : IY = K3 := by have h1 := (Prod.mk.inj hyx).2; have := hIY.out; have := hK3.out; have := hMM.out; have := hI2.out; have := hK1.out; have := hs1.out; omega
              subst hY1 hIYe
              clear hY hB hz hyx
              go_wp2_with fail
              refine Calls.mono kd.out ?_
              rintro e w2 ⟨rfl, rfl⟩
              go_wp2_with fail
              refine Calls.mono kak.out ?_
              rintro e w2 ⟨rfl, rfl⟩
              go_wp2_with fail
              refine Calls.mono kex.out ?_
              rintro e w2 ⟨rfl, rfl⟩
              go_wp2
              go_meet
              all_goals first | exact ⟨rfl, rfl, rfl⟩ | (refine ⟨?_, ?_, ?_⟩ <;> first | rfl | (congr 1; omega))
      · by_cases hx1 : C1 = 88
        · subst hx1
          have hb0 : byteAt L 0 = 48 := hC0.out
          have hb1 : byteAt L 1 = 88 := by have := hC1.out; omega
          have hyx := based_hex L hb0 (.inr hb1)
          rw [hY.out] at hyx
          have hlen : i + 2 ≤ l.length := by
            have h2 := len_two L (by omega)
            rw [hL.out, List.length_drop] at h2
            omega
          clear hb0 hb1 hC0 hC1
          obtain ⟨I2, hI2⟩ : ∃ I2, I2 = i + 2 := ⟨_, rfl⟩
          replace hI2 : Hid _ := hI2
          have hd2 : L.drop 2 = l.drop I2 := by rw [hL.out, List.drop_drop, hI2.out]
          have hI2l : I2 ≤ l.length := by have := hI2.out; omega
          have kd : Hid _ := digits_any w2 ad cap I2 16 l hB.out (by omega) (by omega)
          rw [digs16] at kd
          have hs1 := spanL_le isHexB (l.drop I2)
          rw [List.length_drop] at hs1
          generalize hN1 : spanL isHexB (l.drop I2) = N1 at *
          replace hs1 : Hid _ := hs1
          replace hN1 : Hid _ := hN1
          replace hd2 : Hid _ := hd2
          obtain ⟨K1, hK1⟩ : ∃ K1, K1 = I2 + N1 := ⟨_, rfl⟩
          replace hK1 : Hid _ := hK1
          have hw2 : IntKind.i64.wrap ((i : Int) + 2) = ((I2 : Nat) : Int) := by have := hI2.out; rw [IntKind.wrap_i64]; omega
          have hw3 : IntKind.i64.wrap ((I2 : Int) + (N1 : Int)) = ((K1 : Nat) : Int) := by have := hK1.out; have := hs1.out; rw [IntKind.wrap_i64]; omega
          have hK1l : K1 ≤ l.length := by have := hK1.out; have := hs1.out; omega
          have kak : Hid _ := at_any w2 ad cap K1 l hB.out (by omega) (by omega)
          have hv2 : Hid _ := atv l K1
          have hbd : Hid (byteAt (L.drop 2) N1 = byteAt l K1) := by show _ = _; rw [hd2.out, byteAt_drop, hK1.out]
          generalize (l.getD K1 0).toNat = AK at *
          by_cases hdot : byteAt l K1 = 46
          · have e46 : ((AK : Int) == 46) = true := by have := hv2.out; rw [beq_iff_eq]; omega
            have hKlt : K1 < l.length := by
              rcases Nat.lt_or_ge K1 l.length with h | h
              · exact h
              · exfalso
                unfold byteAt at hdot
                rw [List.drop_eq_nil_of_le h] at hdot
                cases hdot
            obtain ⟨K11, hK11⟩ : ∃ K11, K11 = K1 + 1 := ⟨_, rfl⟩
            replace hK11 : Hid _ := hK11
            have kd2 : Hid _ := digits_any w2 ad cap K11 16 l hB.out (by have := hK11.out; omega) (by omega)
            rw [digs16] at kd2
            have hs2 := spanL_le isHexB (l.drop K11)
            rw [List.length_drop] at hs2
            have hd3 : Hid ((L.drop 2).drop (N1 + 1) = l.drop K11) := by show _ = _; rw [hd2.out, List.drop_drop, hK11.out, hK1.out, Nat.add_assoc]
            generalize hM1 : spanL isHexB (l.drop K11) = M1 at *
            replace hs2 : Hid _ := hs2
            replace hM1 : Hid _ := hM1
            obtain ⟨O1, hO1⟩ : ∃ O1, O1 = 1 + M1 := ⟨_, rfl⟩
            replace hO1 : Hid _ := hO1
            obtain ⟨K2, hK2⟩ : ∃ K2, K2 = K1 + O1 := ⟨_, rfl⟩
            replace hK2 : Hid _ := hK2
            have hw4 : IntKind.i64.wrap ((K1 : Int) + 1) = ((K11 : Nat) : Int) := by have := hK11.out; rw [IntKind.wrap_i64]; omega
            have hw6 : IntKind.i64.wrap (1 + (M1 : Int)) = ((O1 : Nat) : Int) := by have := hO1.out; have := hs2.out; rw [IntKind.wrap_i64]; omega
            have hK2l : K2 ≤ l.length := by have := hK11.out; have := hO1.out; have := hK2.out; have := hs2.out; omega
            have hw7 : IntKind.i64.wrap ((K1 : Int) + (O1 : Int)) = ((K2 : Nat) : Int) := by have := hK2.out; rw [IntKind.wrap_i64]; omega
            obtain ⟨NN, hNN⟩ : ∃ NN, NN = N1 + M1 := ⟨_, rfl⟩
            replace hNN : Hid _ := hNN
            have hw5 : IntKind.i64.wrap ((N1 : Int) + (M1 : Int)) = ((NN : Nat) : Int) := by have := hNN.out; have := hs1.out; have := hs2.out; rw [IntKind.wrap_i64]; omega
            obtain ⟨MM, hMM⟩ : ∃ MM, MM = K2 - i := ⟨_, rfl⟩
            replace hMM : Hid _ := hMM
            have kex : Hid _ := exponent_at w2 ad cap i K2 l hB.out (by have := hI2.out; have := hK1.out; have := hK2.out; omega) (by omega) hl 112 80 (by decide) (by decide) (by decide)
            rw [← hL.out, ← hMM.out] at kex
            have hec := expR_cases L MM 112 80
            have hyd := hex_dot L N1 M1 MM (by rw [hd2.out]; exact hN1.out) (by rw [hbd.out]; exact hdot) (by rw [hd3.out]; exact hM1.out) (by have := hI2.out; have := hK1.out; have := hK2.out; have := hO1.out; have := hMM.out; omega)
            rw [hyd] at hyx
            clear hyd hbd hd2 hd3 hN1 hM1 hv2 hdot
            rw [show N1 + M1 = NN from hNN.out.symm] at hyx
            by_cases hNz : NN = 0
            · rw [if_pos hNz] at hyx
              have dNN : ((NN : Int) == 0) = true := by rw [beq_iff_eq]; omega
              clear hNz
              generalize expR L MM 112 80 = EE at *
              clear hec
              have hy2 : Y2 = 0 := by exact (Prod.mk.inj hyx).2
              obtain rfl := hz.out hy2
              clear hy2
              clear hY hB hz hyx
              go_wp2_with fail
              refine Calls.mono kd.out ?_
              rintro e w2 ⟨rfl, rfl⟩
              go_wp2_with fail
              refine Calls.mono kak.out ?_
              rintro e w2 ⟨rfl, rfl⟩
              go_wp2_with fail
              refine Calls.mono kd2.out ?_
              rintro e w2 ⟨rfl, rfl⟩
              go_wp2_with fail
              refine Calls.mono kex.out ?_
              rintro e w2 ⟨rfl, rfl⟩
              go_wp2
              exact bodyPost_ret (v := .tuple #[.int .i64 0, .int .i64 0]) (by simp [results, Tryz.results68, go_sem]) rfl ⟨0, rfl, fun h => absurd rfl h, rfl⟩
            · rw [if_neg hNz] at hyx
              have dNN : ((NN : Int) == 0) = false := by rw [beq_eq_false_iff_ne]; omega
              generalize expR L MM 112 80 = EE at *
              rcases hec with ⟨rfl, hne⟩ | ⟨rfl, hpe, hem⟩ | ⟨q, hq, rfl, hpe, hem⟩
              · rw [if_neg hne] at hyx
                clear hne
                have hy2 : Y2 = 0 := by exact (Prod.mk.inj hyx).2
                obtain rfl := hz.out hy2
                clear hy2
                clear hY hB hz hyx
                go_wp2_with fail
                refine Calls.mono kd.out ?_
                rintro e w2 ⟨rfl, rfl⟩
                go_wp2_with fail
                refine Calls.mono kak.out ?_
                rintro e w2 ⟨rfl, rfl⟩
                go_wp2_with fail
                refine Calls.mono kd2.out ?_
                rintro e w2 ⟨rfl, rfl⟩
                go_wp2_with fail
                refine Calls.mono kex.out ?_
                rintro e w2 ⟨rfl, rfl⟩
                go_wp2
                exact bodyPost_ret (v := .tuple #[.int .i64 0, .int .i64 0]) (by simp [results, Tryz.results68, go_sem]) rfl ⟨0, rfl, fun h => absurd rfl h, rfl⟩
              · rw [if_pos hpe, hem] at hyx
                clear hpe hem
                have hy2 : Y2 = 0 := by exact (Prod.mk.inj hyx).2
                obtain rfl := hz.out hy2
                clear hy2
                clear hY hB hz hyx
                go_wp2_with fail
                refine Calls.mono kd.out ?_
                rintro e w2 ⟨rfl, rfl⟩
                go_wp2_with fail
                refine Calls.mono kak.out ?_
                rintro e w2 ⟨rfl, rfl⟩
                go_wp2_with fail
                refine Calls.mono kd2.out ?_
                rintro e w2 ⟨rfl, rfl⟩
                go_wp2_with fail
                refine Calls.mono kex.out ?_
                rintro e w2 ⟨rfl, rfl⟩
                go_wp2
                exact bodyPost_ret (v := .tuple #[.int .i64 0, .int .i64 0]) (by simp [results, Tryz.results68, go_sem]) rfl ⟨0, rfl, fun h => absurd rfl h, rfl⟩
              · rw [if_pos hpe, hem] at hyx
                clear hpe hem
                have hYq : Hid (MM + q ≤ l.length) := by have h1 := (Prod.mk.inj hyx).2; have := hYl.out; show _ ≤ _; omega
                obtain ⟨K3, hK3⟩ : ∃ K3, K3 = K2 + q := ⟨_, rfl⟩
                replace hK3 : Hid _ := hK3
                have hw8 : IntKind.i64.wrap ((K2 : Int) + (q : Int)) = ((K3 : Nat) : Int) := by have := hK3.out; have := hMM.out; have := hIY.out; have := hYq.out; rw [IntKind.wrap_i64]; omega
                have dq1 : decide ((q : Int) < 0) = false := decide_eq_false (by omega)
                have dq2 : ((q : Int) == 0) = false := by rw [beq_eq_false_iff_ne]; omega
                have dq3 : decide ((q : Int) > 0) = true := decide_eq_true (by omega)
                have hY1 : Y1 = 3 := (Prod.mk.inj hyx).1
                have hIYe : IY = K3 := by have h1 := (Prod.mk.inj hyx).2; have := hIY.out; have := hK3.out; have := hMM.out; have := hI2.out; have := hK1.out; have := hK2.out; have := hO1.out; have := hs1.out; have := hs2.out; omega
                subst hY1 hIYe
                clear hY hB hz hyx
                go_wp2_with fail
                refine Calls.mono kd.out ?_
                rintro e w2 ⟨rfl, rfl⟩
                go_wp2_with fail
                refine Calls.mono kak.out ?_
                rintro e w2 ⟨rfl, rfl⟩
                go_wp2_with fail
                refine Calls.mono kd2.out ?_
                rintro e w2 ⟨rfl, rfl⟩
                go_wp2_with fail
                refine Calls.mono kex.out ?_
                rintro e w2 ⟨rfl, rfl⟩
                go_wp2
                go_meet
                all_goals first | exact ⟨rfl, rfl, rfl⟩ | (refine ⟨?_, ?_, ?_⟩ <;> first | rfl | (congr 1; omega))
          · have e46 : ((AK : Int) == 46) = false := by have := hv2.out; rw [beq_eq_false_iff_ne]; omega
            obtain ⟨MM, hMM⟩ : ∃ MM, MM = K1 - i := ⟨_, rfl⟩
            replace hMM : Hid _ := hMM
            have kex : Hid _ := exponent_at w2 ad cap i K1 l hB.out (by have := hI2.out; have := hK1.out; omega) (by omega) hl 112 80 (by decide) (by decide) (by decide)
            rw [← hL.out, ← hMM.out] at kex
            have hec := expR_cases L MM 112 80
            have hyd := hex_nodot L N1 MM (by rw [hd2.out]; exact hN1.out) (by rw [hbd.out]; exact hdot) (by have := hI2.out; have := hK1.out; have := hMM.out; omega)
            rw [hyd] at hyx
            clear hyd hbd hd2 hN1 hv2 hdot
            by_cases hNz : N1 = 0
            · rw [if_pos hNz] at hyx
              have dNN : ((N1 : Int) == 0) = true := by rw [beq_iff_eq]; omega
              clear hNz
              generalize expR L MM 112 80 = EE at *
              clear hec
              have hy2 : Y2 = 0 := by exact (Prod.mk.inj hyx).2
              obtain rfl := hz.out hy2
              clear hy2
              clear hY hB hz hyx
              go_wp2_with fail
              refine Calls.mono kd.out ?_
              rintro e w2 ⟨rfl, rfl⟩
              go_wp2_with fail
              refine Calls.mono kak.out ?_
              rintro e w2 ⟨rfl, rfl⟩
              go_wp2_with fail
              refine Calls.mono kex.out ?_
              rintro e w2 ⟨rfl, rfl⟩
              go_wp2
              exact bodyPost_ret (v := .tuple #[.int .i64 0, .int .i64 0]) (by simp [results, Tryz.results68, go_sem]) rfl ⟨0, rfl, fun h => absurd rfl h, rfl⟩
            · rw [if_neg hNz] at hyx
              have dNN : ((N1 : Int) == 0) = false := by rw [beq_eq_false_iff_ne]; omega
              generalize expR L MM 112 80 = EE at *
              rcases hec with ⟨rfl, hne⟩ | ⟨rfl, hpe, hem⟩ | ⟨q, hq, rfl, hpe, hem⟩
              · rw [if_neg hne] at hyx
                clear hne
                have hY1 : Y1 = 2 := (Prod.mk.inj hyx).1
                have hIYe : IY = K1 := by have h1 := (Prod.mk.inj hyx).2; have := hIY.out; have := hMM.out; have := hI2.out; have := hK1.out; omega
                subst hY1 hIYe
                clear hY hB hz hyx
                go_wp2_with fail
                refine Calls.mono kd.out ?_
                rintro e w2 ⟨rfl, rfl⟩
                go_wp2_with fail
                refine Calls.mono kak.out ?_
                rintro e w2 ⟨rfl, rfl⟩
                go_wp2_with fail
                refine Calls.mono kex.out ?_
                rintro e w2 ⟨rfl, rfl⟩
                go_wp2
                go_meet
                all_goals first | exact ⟨rfl, rfl, rfl⟩ | (refine ⟨?_, ?_, ?_⟩ <;> first | rfl | (congr 1; omega))
              · rw [if_pos hpe, hem] at hyx
                clear hpe hem
                have hy2 : Y2 = 0 := by exact (Prod.mk.inj hyx).2
                obtain rfl := hz.out hy2
                clear hy2
                clear hY hB hz hyx
                go_wp2_with fail
                refine Calls.mono kd.out ?_
                rintro e w2 ⟨rfl, rfl⟩
                go_wp2_with fail
                refine Calls.mono kak.out ?_
                rintro e w2 ⟨rfl, rfl⟩
                go_wp2_with fail
                refine Calls.mono kex.out ?_
                rintro e w2 ⟨rfl, rfl⟩
                go_wp2
                exact bodyPost_ret (v := .tuple #[.int .i64 0, .int .i64 0]) (by simp [results, Tryz.results68, go_sem]) rfl ⟨0, rfl, fun h => absurd rfl h, rfl⟩
              · rw [if_pos hpe, hem] at hyx
                clear hpe hem
                have hYq : Hid (MM + q ≤ l.length) := by have h1 := (Prod.mk.inj hyx).2; have := hYl.out; show _ ≤ _; omega
                obtain ⟨K3, hK3⟩ : ∃ K3, K3 = K1 + q := ⟨_, rfl⟩
                replace hK3 : Hid _ := hK3
                have hw8 : IntKind.i64.wrap ((K1 : Int) + (q : Int)) = ((K3 : Nat) : Int) := by have := hK3.out; have := hMM.out; have := hIY.out; have := hYq.out; rw [IntKind.wrap_i64]; omega
                have dq1 : decide ((q : Int) < 0) = false := decide_eq_false (by omega)
                have dq2 : ((q : Int) == 0) = false := by rw [beq_eq_false_iff_ne]; omega
                have dq3 : decide ((q : Int) > 0) = true := decide_eq_true (by omega)
                have hY1 : Y1 = 3 := (Prod.mk.inj hyx).1
                have hIYe : IY = K3 := by have h1 := (Prod.mk.inj hyx).2; have := hIY.out; have := hK3.out; have := hMM.out; have := hI2.out; have := hK1.out; have := hs1.out; omega
                subst hY1 hIYe
                clear hY hB hz hyx
                go_wp2_with fail
                refine Calls.mono kd.out ?_
                rintro e w2 ⟨rfl, rfl⟩
                go_wp2_with fail
                refine Calls.mono kak.out ?_
                rintro e w2 ⟨rfl, rfl⟩
                go_wp2_with fail
                refine Calls.mono kex.out ?_
                rintro e w2 ⟨rfl, rfl⟩
                go_wp2
                go_meet
                all_goals first | exact ⟨rfl, rfl, rfl⟩ | (refine ⟨?_, ?_, ?_⟩ <;> first | rfl | (congr 1; omega))
        · by_cases hx1 : C1 = 111
          · subst hx1
            have hb0 : byteAt L 0 = 48 := hC0.out
            have hb1 : byteAt L 1 = 111 := by have := hC1.out; omega
            have hyx := based_oct L hb0 (.inl hb1)
            rw [hY.out] at hyx
            have hlen : i + 2 ≤ l.length := by
              have h2 := len_two L (by omega)
              rw [hL.out, List.length_drop] at h2
              omega
            clear hb0 hb1 hC0 hC1
            obtain ⟨I2, hI2⟩ : ∃ I2, I2 = i + 2 := ⟨_, rfl⟩
            replace hI2 : Hid _ := hI2
            have hd2 : L.drop 2 = l.drop I2 := by rw [hL.out, List.drop_drop, hI2.out]
            have hI2l : I2 ≤ l.length := by have := hI2.out; omega
            have kd : Hid _ := digits_any w2 ad cap I2 8 l hB.out (by omega) (by omega)
            rw [digs8] at kd
            have hs1 := spanL_le isOctalB (l.drop I2)
            rw [List.length_drop] at hs1
            generalize hN1 : spanL isOctalB (l.drop I2) = N1 at *
            replace hs1 : Hid _ := hs1
            replace hN1 : Hid _ := hN1
            replace hd2 : Hid _ := hd2
            obtain ⟨K1, hK1⟩ : ∃ K1, K1 = I2 + N1 := ⟨_, rfl⟩
            replace hK1 : Hid _ := hK1
            have hw2 : IntKind.i64.wrap ((i : Int) + 2) = ((I2 : Nat) : Int) := by have := hI2.out; rw [IntKind.wrap_i64]; omega
            have hw3 : IntKind.i64.wrap ((I2 : Int) + (N1 : Int)) = ((K1 : Nat) : Int) := by have := hK1.out; have := hs1.out; rw [IntKind.wrap_i64]; omega
            unfold wholeM at hyx
            rw [show spanL isOctalB (L.drop 2) = N1 by rw [hd2.out]; exact hN1.out] at hyx
            clear hd2 hN1
            by_cases hNz : N1 = 0
            · rw [if_pos hNz] at hyx
              subst hNz
              have hy2 : Y2 = 0 := by exact (Prod.mk.inj hyx).2
              obtain rfl := hz.out hy2
              clear hy2
              clear hY hB hz hyx
              go_wp2_with fail
              refine Calls.mono kd.out ?_
              rintro e w2 ⟨rfl, rfl⟩
              go_wp2
              exact bodyPost_ret (v := .tuple #[.int .i64 0, .int .i64 0]) (by simp [results, Tryz.results68, go_sem]) rfl ⟨0, rfl, fun h => absurd rfl h, rfl⟩
            · rw [if_neg hNz] at hyx
              have dNN : ((N1 : Int) == 0) = false := by rw [beq_eq_false_iff_ne]; omega
              have hY1 : Y1 = 2 := (Prod.mk.inj hyx).1
              have hIYe : IY = K1 := by have h1 := (Prod.mk.inj hyx).2; have := hIY.out; have := hI2.out; have := hK1.out; have := hs1.out; omega
              subst hY1 hIYe
              clear hY hB hz hyx
              go_wp2_with fail
              refine Calls.mono kd.out ?_
              rintro e w2 ⟨rfl, rfl⟩
              go_wp2
              go_meet
              all_goals first | exact ⟨rfl, rfl, rfl⟩ | (refine ⟨?_, ?_, ?_⟩ <;> first | rfl | (congr 1; omega))
          · by_cases hx1 : C1 = 79
            · subst hx1
              have hb0 : byteAt L 0 = 48 := hC0.out
              have hb1 : byteAt L 1 = 79 := by have := hC1.out; omega
              have hyx := based_oct L hb0 (.inr hb1)
              rw [hY.out] at hyx
              have hlen : i + 2 ≤ l.length := by
                have h2 := len_two L (by omega)
                rw [hL.out, List.length_drop] at h2
                omega
              clear hb0 hb1 hC0 hC1
              obtain ⟨I2, hI2⟩ : ∃ I2, I2 = i + 2 := ⟨_, rfl⟩
              replace hI2 : Hid _ := hI2
              have hd2 : L.drop 2 = l.drop I2 := by rw [hL.out, List.drop_drop, hI2.out]
              have hI2l : I2 ≤ l.length := by have := hI2.out; omega
              have kd : Hid _ := digits_any w2 ad cap I2 8 l hB.out (by omega) (by omega)
              rw [digs8] at kd
              have hs1 := spanL_le isOctalB (l.drop I2)
              rw [List.length_drop] at hs1
              generalize hN1 : spanL isOctalB (l.drop I2) = N1 at *
              replace hs1 : Hid _ := hs1
              replace hN1 : Hid _ := hN1
              replace hd2 : Hid _ := hd2
              obtain ⟨K1, hK1⟩ : ∃ K1, K1 = I2 + N1 := ⟨_, rfl⟩
              replace hK1 : Hid _ := hK1
              have hw2 : IntKind.i64.wrap ((i : Int) + 2) = ((I2 : Nat) : Int) := by have := hI2.out; rw [IntKind.wrap_i64]; omega
              have hw3 : IntKind.i64.wrap ((I2 : Int) + (N1 : Int)) = ((K1 : Nat) : Int) := by have := hK1.out; have := hs1.out; rw [IntKind.wrap_i64]; omega
              unfold wholeM at hyx
              rw [show spanL isOctalB (L.drop 2) = N1 by rw [hd2.out]; exact hN1.out] at hyx
              clear hd2 hN1
              by_cases hNz : N1 = 0
              · rw [if_pos hNz] at hyx
                subst hNz
                have hy2 : Y2 = 0 := by exact (Prod.mk.inj hyx).2
                obtain rfl := hz.out hy2
                clear hy2
                clear hY hB hz hyx
                go_wp2_with fail
                refine Calls.mono kd.out ?_
                rintro e w2 ⟨rfl, rfl⟩
                go_wp2
                exact bodyPost_ret (v := .tuple #[.int .i64 0, .int .i64 0]) (by simp [results, Tryz.results68, go_sem]) rfl ⟨0, rfl, fun h => absurd rfl h, rfl⟩
              · rw [if_neg hNz] at hyx
                have dNN : ((N1 : Int) == 0) = false := by rw [beq_eq_false_iff_ne]; omega
                have hY1 : Y1 = 2 := (Prod.mk.inj hyx).1
                have hIYe : IY = K1 := by have h1 := (Prod.mk.inj hyx).2; have := hIY.out; have := hI2.out; have := hK1.out; have := hs1.out; omega
                subst hY1 hIYe
                clear hY hB hz hyx
                go_wp2_with fail
                refine Calls.mono kd.out ?_
                rintro e w2 ⟨rfl, rfl⟩
                go_wp2
                go_meet
                all_goals first | exact ⟨rfl, rfl, rfl⟩ | (refine ⟨?_, ?_, ?_⟩ <;> first | rfl | (congr 1; omega))
            · by_cases hx1 : C1 = 98
              · subst hx1
                have hb0 : byteAt L 0 = 48 := hC0.out
                have hb1 : byteAt L 1 = 98 := by have := hC1.out; omega
                have hyx := based_bin L hb0 (.inl hb1)
                rw [hY.out] at hyx
                have hlen : i + 2 ≤ l.length := by
                  have h2 := len_two L (by omega)
                  rw [hL.out, List.length_drop] at h2
                  omega
                clear hb0 hb1 hC0 hC1
                obtain ⟨I2, hI2⟩ : ∃ I2, I2 = i + 2 := ⟨_, rfl⟩
                replace hI2 : Hid _ := hI2
                have hd2 : L.drop 2 = l.drop I2 := by rw [hL.out, List.drop_drop, hI2.out]
                have hI2l : I2 ≤ l.length := by have := hI2.out; omega
                have kd : Hid _ := digits_any w2 ad cap I2 2 l hB.out (by omega) (by omega)
                rw [digs2] at kd
                have hs1 := spanL_le isBinaryB (l.drop I2)
                rw [List.length_drop] at hs1
                generalize hN1 : spanL isBinaryB (l.drop I2) = N1 at *
                replace hs1 : Hid _ := hs1
                replace hN1 : Hid _ := hN1
                replace hd2 : Hid _ := hd2
                obtain ⟨K1, hK1⟩ : ∃ K1, K1 = I2 + N1 := ⟨_, rfl⟩
                replace hK1 : Hid _ := hK1
                have hw2 : IntKind.i64.wrap ((i : Int) + 2) = ((I2 : Nat) : Int) := by have := hI2.out; rw [IntKind.wrap_i64]; omega
                have hw3 : IntKind.i64.wrap ((I2 : Int) + (N1 : Int)) = ((K1 : Nat) : Int) := by have := hK1.out; have := hs1.out; rw [IntKind.wrap_i64]; omega
                unfold wholeM at hyx
                rw [show spanL isBinaryB (L.drop 2) = N1 by rw [hd2.out]; exact hN1.out] at hyx
                clear hd2 hN1
                by_cases hNz : N1 = 0
                · rw [if_pos hNz] at hyx
                  subst hNz
                  have hy2 : Y2 = 0 := by exact (Prod.mk.inj hyx).2
                  obtain rfl := hz.out hy2
                  clear hy2
                  clear hY hB hz hyx
                  go_wp2_with fail
                  refine Calls.mono kd.out ?_
                  rintro e w2 ⟨rfl, rfl⟩
                  go_wp2
                  exact bodyPost_ret (v := .tuple #[.int .i64 0, .int .i64 0]) (by simp [results, Tryz.results68, go_sem]) rfl ⟨0, rfl, fun h => absurd rfl h, rfl⟩
                · rw [if_neg hNz] at hyx
                  have dNN : ((N1 : Int) == 0) = false := by rw [beq_eq_false_iff_ne]; omega
                  have hY1 : Y1 = 2 := (Prod.mk.inj hyx).1
                  have hIYe : IY = K1 := by have h1 := (Prod.mk.inj hyx).2; have := hIY.out; have := hI2.out; have := hK1.out; have := hs1.out; omega
                  subst hY1 hIYe
                  clear hY hB hz hyx
                  go_wp2_with fail
                  refine Calls.mono kd.out ?_
                  rintro e w2 ⟨rfl, rfl⟩
                  go_wp2
                  go_meet
                  all_goals first | exact ⟨rfl, rfl, rfl⟩ | (refine ⟨?_, ?_, ?_⟩ <;> first | rfl | (congr 1; omega))
              · by_cases hx1 : C1 = 66
                · subst hx1
                  have hb0 : byteAt L 0 = 48 := hC0.out
                  have hb1 : byteAt L 1 = 66 := by have := hC1.out; omega
                  have hyx := based_bin L hb0 (.inr hb1)
                  rw [hY.out] at hyx
                  have hlen : i + 2 ≤ l.length := by
                    have h2 := len_two L (by omega)
                    rw [hL.out, List.length_drop] at h2
                    omega
                  clear hb0 hb1 hC0 hC1
                  obtain ⟨I2, hI2⟩ : ∃ I2, I2 = i + 2 := ⟨_, rfl⟩
                  replace hI2 : Hid _ := hI2
                  have hd2 : L.drop 2 = l.drop I2 := by rw [hL.out, List.drop_drop, hI2.out]
                  have hI2l : I2 ≤ l.length := by have := hI2.out; omega
                  have kd : Hid _ := digits_any w2 ad cap I2 2 l hB.out (by omega) (by omega)
                  rw [digs2] at kd
                  have hs1 := spanL_le isBinaryB (l.drop I2)
                  rw [List.length_drop] at hs1
                  generalize hN1 : spanL isBinaryB (l.drop I2) = N1 at *
                  replace hs1 : Hid _ := hs1
                  replace hN1 : Hid _ := hN1
                  replace hd2 : Hid _ := hd2
                  obtain ⟨K1, hK1⟩ : ∃ K1, K1 = I2 + N1 := ⟨_, rfl⟩
                  replace hK1 : Hid _ := hK1
                  have hw2 : IntKind.i64.wrap ((i : Int) + 2) = ((I2 : Nat) : Int) := by have := hI2.out; rw [IntKind.wrap_i64]; omega
                  have hw3 : IntKind.i64.wrap ((I2 : Int) + (N1 : Int)) = ((K1 : Nat) : Int) := by have := hK1.out; have := hs1.out; rw [IntKind.wrap_i64]; omega
                  unfold wholeM at hyx
                  rw [show spanL isBinaryB (L.drop 2) = N1 by rw [hd2.out]; exact hN1.out] at hyx
                  clear hd2 hN1
                  by_cases hNz : N1 = 0
                  · rw [if_pos hNz] at hyx
                    subst hNz
                    have hy2 : Y2 = 0 := by exact (Prod.mk.inj hyx).2
                    obtain rfl := hz.out hy2
                    clear hy2
                    clear hY hB hz hyx
                    go_wp2_with fail
                    refine Calls.mono kd.out ?_
                    rintro e w2 ⟨rfl, rfl⟩
                    go_wp2
                    exact bodyPost_ret (v := .tuple #[.int .i64 0, .int .i64 0]) (by simp [results, Tryz.results68, go_sem]) rfl ⟨0, rfl, fun h => absurd rfl h, rfl⟩
                  · rw [if_neg hNz] at hyx
                    have dNN : ((N1 : Int) == 0) = false := by rw [beq_eq_false_iff_ne]; omega
                    have hY1 : Y1 = 2 := (Prod.mk.inj hyx).1
                    have hIYe : IY = K1 := by have h1 := (Prod.mk.inj hyx).2; have := hIY.out; have := hI2.out; have := hK1.out; have := hs1.out; omega
                    subst hY1 hIYe
                    clear hY hB hz hyx
                    go_wp2_with fail
                    refine Calls.mono kd.out ?_
                    rintro e w2 ⟨rfl, rfl⟩
                    go_wp2
                    go_meet
                    all_goals first | exact ⟨rfl, rfl, rfl⟩ | (refine ⟨?_, ?_, ?_⟩ <;> first | rfl | (congr 1; omega))
                · have e120 : ((C1 : Int) == 120) = false := by rw [beq_eq_false_iff_ne]; omega
                  have e88 : ((C1 : Int) == 88) = false := by rw [beq_eq_false_iff_ne]; omega
                  have e111 : ((C1 : Int) == 111) = false := by rw [beq_eq_false_iff_ne]; omega
                  have e79 : ((C1 : Int) == 79) = false := by rw [beq_eq_false_iff_ne]; omega
                  have e98 : ((C1 : Int) == 98) = false := by rw [beq_eq_false_iff_ne]; omega
                  have e66 : ((C1 : Int) == 66) = false := by rw [beq_eq_false_iff_ne]; omega
                  have hyx := based_dec L (.inr (by have h1 := hC1.out; omega))
                  rw [hY.out] at hyx
                  have hI2 : Hid (i = i) := rfl
                  have hd2 : L = l.drop i := hL.out
                  have hI2l : i ≤ l.length := by have := hI2.out; omega
                  have kd : Hid _ := digits_any w2 ad cap i 10 l hB.out (by omega) (by omega)
                  rw [digs10] at kd
                  have hs1 := spanL_le isDigitB (l.drop i)
                  rw [List.length_drop] at hs1
                  generalize hN1 : spanL isDigitB (l.drop i) = N1 at *
                  replace hs1 : Hid _ := hs1
                  replace hN1 : Hid _ := hN1
                  replace hd2 : Hid _ := hd2
                  obtain ⟨K1, hK1⟩ : ∃ K1, K1 = i + N1 := ⟨_, rfl⟩
                  replace hK1 : Hid _ := hK1
                  have hw3 : IntKind.i64.wrap ((i : Int) + (N1 : Int)) = ((K1 : Nat) : Int) := by have := hK1.out; have := hs1.out; rw [IntKind.wrap_i64]; omega
                  have hK1l : K1 ≤ l.length := by have := hK1.out; have := hs1.out; omega
                  have kak : Hid _ := at_any w2 ad cap K1 l hB.out (by omega) (by omega)
                  have hv2 : Hid _ := atv l K1
                  have hbd : Hid (byteAt (L) N1 = byteAt l K1) := by show _ = _; rw [hd2.out, byteAt_drop, hK1.out]
                  generalize (l.getD K1 0).toNat = AK at *
                  by_cases hdot : byteAt l K1 = 46
                  · have e46 : ((AK : Int) == 46) = true := by have := hv2.out; rw [beq_iff_eq]; omega
                    have hKlt : K1 < l.length := by
                      rcases Nat.lt_or_ge K1 l.length with h | h
                      · exact h
                      · exfalso
                        unfold byteAt at hdot
                        rw [List.drop_eq_nil_of_le h] at hdot
                        cases hdot
                    obtain ⟨K11, hK11⟩ : ∃ K11, K11 = K1 + 1 := ⟨_, rfl⟩
                    replace hK11 : Hid _ := hK11
                    have kd2 : Hid _ := digits_any w2 ad cap K11 10 l hB.out (by have := hK11.out; omega) (by omega)
                    rw [digs10] at kd2
                    have hs2 := spanL_le isDigitB (l.drop K11)
                    rw [List.length_drop] at hs2
                    have hd3 : Hid ((L).drop (N1 + 1) = l.drop K11) := by show _ = _; rw [hd2.out, List.drop_drop, hK11.out, hK1.out, Nat.add_assoc]
                    generalize hM1 : spanL isDigitB (l.drop K11) = M1 at *
                    replace hs2 : Hid _ := hs2
                    replace hM1 : Hid _ := hM1
                    obtain ⟨O1, hO1⟩ : ∃ O1, O1 = 1 + M1 := ⟨_, rfl⟩
                    replace hO1 : Hid _ := hO1
                    obtain ⟨K2, hK2⟩ : ∃ K2, K2 = K1 + O1 := ⟨_, rfl⟩
                    replace hK2 : Hid _ := hK2
                    have hw4 : IntKind.i64.wrap ((K1 : Int) + 1) = ((K11 : Nat) : Int) := by have := hK11.out; rw [IntKind.wrap_i64]; omega
                    have hw6 : IntKind.i64.wrap (1 + (M1 : Int)) = ((O1 : Nat) : Int) := by have := hO1.out; have := hs2.out; rw [IntKind.wrap_i64]; omega
                    have hK2l : K2 ≤ l.length := by have := hK11.out; have := hO1.out; have := hK2.out; have := hs2.out; omega
                    have hw7 : IntKind.i64.wrap ((K1 : Int) + (O1 : Int)) = ((K2 : Nat) : Int) := by have := hK2.out; rw [IntKind.wrap_i64]; omega
                    obtain ⟨MM, hMM⟩ : ∃ MM, MM = K2 - i := ⟨_, rfl⟩
                    replace hMM : Hid _ := hMM
                    have kex : Hid _ := exponent_at w2 ad cap i K2 l hB.out (by have := hI2.out; have := hK1.out; have := hK2.out; omega) (by omega) hl 101 69 (by decide) (by decide) (by decide)
                    rw [← hL.out, ← hMM.out] at kex
                    have hec := expR_cases L MM 101 69
                    have hyd := dec_dot L N1 M1 MM (by rw [hd2.out]; exact hN1.out) (by rw [hbd.out]; exact hdot) (by rw [hd3.out]; exact hM1.out) (by have := hI2.out; have := hK1.out; have := hK2.out; have := hO1.out; have := hMM.out; omega)
                    rw [hyd] at hyx
                    clear hyd hbd hd2 hd3 hN1 hM1 hv2 hdot hC0 hC1
                    generalize expR L MM 101 69 = EE at *
                    rcases hec with ⟨rfl, hne⟩ | ⟨rfl, hpe, hem⟩ | ⟨q, hq, rfl, hpe, hem⟩
                    · rw [if_neg hne] at hyx
                      clear hne
                      have hY1 : Y1 = 3 := (Prod.mk.inj hyx).1
                      have hIYe : IY = K2 := by have h1 := (Prod.mk.inj hyx).2; have := hIY.out; have := hMM.out; have := hI2.out; have := hK1.out; have := hK2.out; have := hO1.out; omega
                      subst hY1 hIYe
                      clear hY hB hz hyx
                      go_wp2_with fail
                      refine Calls.mono kd.out ?_
                      rintro e w2 ⟨rfl, rfl⟩
                      go_wp2_with fail
                      refine Calls.mono kak.out ?_
                      rintro e w2 ⟨rfl, rfl⟩
                      go_wp2_with fail
                      refine Calls.mono kd2.out ?_
                      rintro e w2 ⟨rfl, rfl⟩
                      go_wp2_with fail
                      refine Calls.mono kex.out ?_
                      rintro e w2 ⟨rfl, rfl⟩
                      go_wp2
                      go_meet
                      all_goals first | exact ⟨rfl, rfl, rfl⟩ | (refine ⟨?_, ?_, ?_⟩ <;> first | rfl | (congr 1; omega))
                    · rw [if_pos hpe, hem] at hyx
                      clear hpe hem
                      have hy2 : Y2 = 0 := by exact (Prod.mk.inj hyx).2
                      obtain rfl := hz.out hy2
                      clear hy2
                      clear hY hB hz hyx
                      go_wp2_with fail
                      refine Calls.mono kd.out ?_
                      rintro e w2 ⟨rfl, rfl⟩
                      go_wp2_with fail
                      refine Calls.mono kak.out ?_
                      rintro e w2 ⟨rfl, rfl⟩
                      go_wp2_with fail
                      refine Calls.mono kd2.out ?_
                      rintro e w2 ⟨rfl, rfl⟩
                      go_wp2_with fail
                      refine Calls.mono kex.out ?_
                      rintro e w2 ⟨rfl, rfl⟩
                      go_wp2
                      exact bodyPost_ret (v := .tuple #[.int .i64 0, .int .i64 0]) (by simp [results, Tryz.results68, go_sem]) rfl ⟨0, rfl, fun h => absurd rfl h, rfl⟩
                    · rw [if_pos hpe, hem] at hyx
                      clear hpe hem
                      have hYq : Hid (MM + q ≤ l.length) := by have h1 := (Prod.mk.inj hyx).2; have := hYl.out; show _ ≤ _; omega
                      obtain ⟨K3, hK3⟩ : ∃ K3, K3 = K2 + q := ⟨_, rfl⟩
                      replace hK3 : Hid _ := hK3
                      have hw8 : IntKind.i64.wrap ((K2 : Int) + (q : Int)) = ((K3 : Nat) : Int) := by have := hK3.out; have := hMM.out; have := hIY.out; have := hYq.out; rw [IntKind.wrap_i64]; omega
                      have dq1 : decide ((q : Int) < 0) = false := decide_eq_false (by omega)
                      have dq2 : ((q : Int) == 0) = false := by rw [beq_eq_false_iff_ne]; omega
                      have dq3 : decide ((q : Int) > 0) = true := decide_eq_true (by omega)
                      have hY1 : Y1 = 3 := (Prod.mk.inj hyx).1
                      have hIYe : IY = K3 := by have h1 := (Prod.mk.inj hyx).2; have := hIY.out; have := hK3.out; have := hMM.out; have := hI2.out; have := hK1.out; have := hK2.out; have := hO1.out; omega
                      subst hY1 hIYe
                      clear hY hB hz hyx
                      go_wp2_with fail
                      refine Calls.mono kd.out ?_
                      rintro e w2 ⟨rfl, rfl⟩
                      go_wp2_with fail
                      refine Calls.mono kak.out ?_
                      rintro e w2 ⟨rfl, rfl⟩
                      go_wp2_with fail
                      refine Calls.mono kd2.out ?_
                      rintro e w2 ⟨rfl, rfl⟩
                      go_wp2_with fail
                      refine Calls.mono kex.out ?_
                      rintro e w2 ⟨rfl, rfl⟩
                      go_wp2
                      go_meet
                      all_goals first | exact ⟨rfl, rfl, rfl⟩ | (refine ⟨?_, ?_, ?_⟩ <;> first | rfl | (congr 1; omega))
                  · have e46 : ((AK : Int) == 46) = false := by have := hv2.out; rw [beq_eq_false_iff_ne]; omega
                    obtain ⟨MM, hMM⟩ : ∃ MM, MM = K1 - i := ⟨_, rfl⟩
                    replace hMM : Hid _ := hMM
                    have kex : Hid _ := exponent_at w2 ad cap i K1 l hB.out (by have := hI2.out; have := hK1.out; omega) (by omega) hl 101 69 (by decide) (by decide) (by decide)
                    rw [← hL.out, ← hMM.out] at kex
                    have hec := expR_cases L MM 101 69
                    have hMN : MM = N1 := by have := hI2.out; have := hK1.out; have := hMM.out; omega
                    have hyd := dec_nodot L N1 (by rw [hd2.out]; exact hN1.out) (by rw [hbd.out]; exact hdot)
                    rw [hyd, ← hMN] at hyx
                    clear hyd hbd hd2 hN1 hv2 hdot
                    generalize expR L MM 101 69 = EE at *
                    rcases hec with ⟨rfl, hne⟩ | ⟨rfl, hpe, hem⟩ | ⟨q, hq, rfl, hpe, hem⟩
                    · rw [if_neg hne] at hyx
                      clear hne
                      have hb0 := hC0.out
                      by_cases hld : 1 < N1
                      · rw [if_pos ⟨by omega, hb0⟩] at hyx
                        have dl1 : decide ((N1 : Int) > 1) = true := decide_eq_true (by omega)
                        clear hb0 hC0 hC1
                        have hy2 : Y2 = 0 := by exact (Prod.mk.inj hyx).2
                        obtain rfl := hz.out hy2
                        clear hy2
                        clear hY hB hz hyx
                        go_wp2_with fail
                        refine Calls.mono kd.out ?_
                        rintro e w2 ⟨rfl, rfl⟩
                        go_wp2_with fail
                        refine Calls.mono kak.out ?_
                        rintro e w2 ⟨rfl, rfl⟩
                        go_wp2_with fail
                        refine Calls.mono kex.out ?_
                        rintro e w2 ⟨rfl, rfl⟩
                        go_wp2
                        exact bodyPost_ret (v := .tuple #[.int .i64 0, .int .i64 0]) (by simp [results, Tryz.results68, go_sem]) rfl ⟨0, rfl, fun h => absurd rfl h, rfl⟩
                      · rw [if_neg (fun h => hld (by omega))] at hyx
                        have dl1 : decide ((N1 : Int) > 1) = false := decide_eq_false (by omega)
                        clear hb0 hC0 hC1
                        have hY1 : Y1 = 2 := (Prod.mk.inj hyx).1
                        have hIYe : IY = K1 := by have h1 := (Prod.mk.inj hyx).2; have := hIY.out; have := hMM.out; have := hI2.out; have := hK1.out; omega
                        subst hY1 hIYe
                        clear hY hB hz hyx
                        go_wp2_with fail
                        refine Calls.mono kd.out ?_
                        rintro e w2 ⟨rfl, rfl⟩
                        go_wp2_with fail
                        refine Calls.mono kak.out ?_
                        rintro e w2 ⟨rfl, rfl⟩
                        go_wp2_with fail
                        refine Calls.mono kex.out ?_
                        rintro e w2 ⟨rfl, rfl⟩
                        go_wp2
                        go_meet
                        all_goals first | exact ⟨rfl, rfl, rfl⟩ | (refine ⟨?_, ?_, ?_⟩ <;> first | rfl | (congr 1; omega))
                    · rw [if_pos hpe, hem] at hyx
                      clear hpe hem hC0 hC1
                      have hy2 : Y2 = 0 := by exact (Prod.mk.inj hyx).2
                      obtain rfl := hz.out hy2
                      clear hy2
                      clear hY hB hz hyx
                      go_wp2_with fail
                      refine Calls.mono kd.out ?_
                      rintro e w2 ⟨rfl, rfl⟩
                      go_wp2_with fail
                      refine Calls.mono kak.out ?_
                      rintro e w2 ⟨rfl, rfl⟩
                      go_wp2_with fail
                      refine Calls.mono kex.out ?_
                      rintro e w2 ⟨rfl, rfl⟩
                      go_wp2
                      exact bodyPost_ret (v := .tuple #[.int .i64 0, .int .i64 0]) (by simp [results, Tryz.results68, go_sem]) rfl ⟨0, rfl, fun h => absurd rfl h, rfl⟩
                    · rw [if_pos hpe, hem] at hyx
                      clear hpe hem hC0 hC1
                      have hYq : Hid (MM + q ≤ l.length) := by have h1 := (Prod.mk.inj hyx).2; have := hYl.out; show _ ≤ _; omega
                      obtain ⟨K3, hK3⟩ : ∃ K3, K3 = K1 + q := ⟨_, rfl⟩
                      replace hK3 : Hid _ := hK3
                      have hw8 : IntKind.i64.wrap ((K1 : Int) + (q : Int)) = ((K3 : Nat) : Int) := by have := hK3.out; have := hMM.out; have := hIY.out; have := hYq.out; rw [IntKind.wrap_i64]; omega
                      have dq1 : decide ((q : Int) < 0) = false := decide_eq_false (by omega)
                      have dq2 : ((q : Int) == 0) = false := by rw [beq_eq_false_iff_ne]; omega
                      have dq3 : decide ((q : Int) > 0) = true := decide_eq_true (by omega)
                      have hY1 : Y1 = 3 := (Prod.mk.inj hyx).1
                      have hIYe : IY = K3 := by have h1 := (Prod.mk.inj hyx).2; have := hIY.out; have := hK3.out; have := hMM.out; have := hI2.out; have := hK1.out; omega
                      subst hY1 hIYe
                      clear hY hB hz hyx
                      go_wp2_with fail
                      refine Calls.mono kd.out ?_
                      rintro e w2 ⟨rfl, rfl⟩
                      go_wp2_with fail
                      refine Calls.mono kak.out ?_
                      rintro e w2 ⟨rfl, rfl⟩
                      go_wp2_with fail
                      refine Calls.mono kex.out ?_
                      rintro e w2 ⟨rfl, rfl⟩
                      go_wp2
                      go_meet
                      all_goals first | exact ⟨rfl, rfl, rfl⟩ | (refine ⟨?_, ?_, ?_⟩ <;> first | rfl | (congr 1; omega))
    · have e48 : ((C0 : Int) == 48) = false := by rw [beq_eq_false_iff_ne]; omega
      have hyx := based_dec L (.inl (by have h0 := hC0.out; omega))
      rw [hY.out] at hyx
      have hI2 : Hid (i = i) := rfl
      have hd2 : L = l.drop i := hL.out
      have hI2l : i ≤ l.length := by have := hI2.out; omega
      have kd : Hid _ := digits_any w2 ad cap i 10 l hB.out (by omega) (by omega)
      rw [digs10] at kd
      have hs1 := spanL_le isDigitB (l.drop i)
      rw [List.length_drop] at hs1
      generalize hN1 : spanL isDigitB (l.drop i) = N1 at *
      replace hs1 : Hid _ := hs1
      replace hN1 : Hid _ := hN1
      replace hd2 : Hid _ := hd2
      obtain ⟨K1, hK1⟩ : ∃ K1, K1 = i + N1 := ⟨_, rfl⟩
      replace hK1 : Hid _ := hK1
      have hw3 : IntKind.i64.wrap ((i : Int) + (N1 : Int)) = ((K1 : Nat) : Int) := by have := hK1.out; have := hs1.out; rw [IntKind.wrap_i64]; omega
      have hK1l : K1 ≤ l.length := by have := hK1.out; have := hs1.out; omega
      have kak : Hid _ := at_any w2 ad cap K1 l hB.out (by omega) (by omega)
      have hv2 : Hid _ := atv l K1
      have hbd : Hid (byteAt (L) N1 = byteAt l K1) := by show _ = _; rw [hd2.out, byteAt_drop, hK1.out]
      generalize (l.getD K1 0).toNat = AK at *
      by_cases hdot : byteAt l K1 = 46
      · have e46 : ((AK : Int) == 46) = true := by have := hv2.out; rw [beq_iff_eq]; omega
        have hKlt : K1 < l.length := by
          rcases Nat.lt_or_ge K1 l.length with h | h
          · exact h
          · exfalso
            unfold byteAt at hdot
            rw [List.drop_eq_nil_of_le h] at hdot
            cases hdot
        obtain ⟨K11, hK11⟩ : ∃ K11, K11 = K1 + 1 := ⟨_, rfl⟩
        replace hK11 : Hid _ := hK11
        have kd2 : Hid _ := digits_any w2 ad cap K11 10 l hB.out (by have := hK11.out; omega) (by omega)
        rw [digs10] at kd2
        have hs2 := spanL_le isDigitB (l.drop K11)
        rw [List.length_drop] at hs2
        have hd3 : Hid ((L).drop (N1 + 1) = l.drop K11) := by show _ = _; rw [hd2.out, List.drop_drop, hK11.out, hK1.out, Nat.add_assoc]
        generalize hM1 : spanL isDigitB (l.drop K11) = M1 at *
        replace hs2 : Hid _ := hs2
        replace hM1 : Hid _ := hM1
        obtain ⟨O1, hO1⟩ : ∃ O1, O1 = 1 + M1 := ⟨_, rfl⟩
        replace hO1 : Hid _ := hO1
        obtain ⟨K2, hK2⟩ : ∃ K2, K2 = K1 + O1 := ⟨_, rfl⟩
        replace hK2 : Hid _ := hK2
        have hw4 : IntKind.i64.wrap ((K1 : Int) + 1) = ((K11 : Nat) : Int) := by have := hK11.out; rw [IntKind.wrap_i64]; omega
        have hw6 : IntKind.i64.wrap (1 + (M1 : Int)) = ((O1 : Nat) : Int) := by have := hO1.out; have := hs2.out; rw [IntKind.wrap_i64]; omega
        have hK2l : K2 ≤ l.length := by have := hK11.out; have := hO1.out; have := hK2.out; have := hs2.out; omega
        have hw7 : IntKind.i64.wrap ((K1 : Int) + (O1 : Int)) = ((K2 : Nat) : Int) := by have := hK2.out; rw [IntKind.wrap_i64]; omega
        obtain ⟨MM, hMM⟩ : ∃ MM, MM = K2 - i := ⟨_, rfl⟩
        replace hMM : Hid _ := hMM
        have kex : Hid _ := exponent_at w2 ad cap i K2 l hB.out (by have := hI2.out; have := hK1.out; have := hK2.out; omega) (by omega) hl 101 69 (by decide) (by decide) (by decide)
        rw [← hL.out, ← hMM.out] at kex
        have hec := expR_cases L MM 101 69
        have hyd := dec_dot L N1 M1 MM (by rw [hd2.out]; exact hN1.out) (by rw [hbd.out]; exact hdot) (by rw [hd3.out]; exact hM1.out) (by have := hI2.out; have := hK1.out; have := hK2.out; have := hO1.out; have := hMM.out; omega)
        rw [hyd] at hyx
        clear hyd hbd hd2 hd3 hN1 hM1 hv2 hdot hC0 hC1
        generalize expR L MM 101 69 = EE at *
        rcases hec with ⟨rfl, hne⟩ | ⟨rfl, hpe, hem⟩ | ⟨q, hq, rfl, hpe, hem⟩
        · rw [if_neg hne] at hyx
          clear hne
          have hY1 : Y1 = 3 := (Prod.mk.inj hyx).1
          have hIYe : IY = K2 := by have h1 := (Prod.mk.inj hyx).2; have := hIY.out; have := hMM.out; have := hI2.out; have := hK1.out; have := hK2.out; have := hO1.out; omega
          subst hY1 hIYe
          clear hY hB hz hyx
          go_wp2_with fail
          refine Calls.mono kd.out ?_
          rintro e w2 ⟨rfl, rfl⟩
          go_wp2_with fail
          refine Calls.mono kak.out ?_
          rintro e w2 ⟨rfl, rfl⟩
          go_wp2_with fail
          refine Calls.mono kd2.out ?_
          rintro e w2 ⟨rfl, rfl⟩
          go_wp2_with fail
          refine Calls.mono kex.out ?_
          rintro e w2 ⟨rfl, rfl⟩
          go_wp2
          go_meet
          all_goals first | exact ⟨rfl, rfl, rfl⟩ | (refine ⟨?_, ?_, ?_⟩ <;> first | rfl | (congr 1; omega))
        · rw [if_pos hpe, hem] at hyx
          clear hpe hem
          have hy2 : Y2 = 0 := by exact (Prod.mk.inj hyx).2
          obtain rfl := hz.out hy2
          clear hy2
          clear hY hB hz hyx
          go_wp2_with fail
          refine Calls.mono kd.out ?_
          rintro e w2 ⟨rfl, rfl⟩
          go_wp2_with fail
          refine Calls.mono kak.out ?_
          rintro e w2 ⟨rfl, rfl⟩
          go_wp2_with fail
          refine Calls.mono kd2.out ?_
          rintro e w2 ⟨rfl, rfl⟩
          go_wp2_with fail
          refine Calls.mono kex.out ?_
          rintro e w2 ⟨rfl, rfl⟩
          go_wp2
          exact bodyPost_ret (v := .tuple #[.int .i64 0, .int .i64 0]) (by simp [results, Tryz.results68, go_sem]) rfl ⟨0, rfl, fun h => absurd rfl h, rfl⟩
        · rw [if_pos hpe, hem] at hyx
          clear hpe hem
          have hYq : Hid (MM + q ≤ l.length) := by have h1 := (Prod.mk.inj hyx).2; have := hYl.out; show _ ≤ _; omega
          obtain ⟨K3, hK3⟩ : ∃ K3, K3 = K2 + q := ⟨_, rfl⟩
          replace hK3 : Hid _ := hK3
          have hw8 : IntKind.i64.wrap ((K2 : Int) + (q : Int)) = ((K3 : Nat) : Int) := by have := hK3.out; have := hMM.out; have := hIY.out; have := hYq.out; rw [IntKind.wrap_i64]; omega
          have dq1 : decide ((q : Int) < 0) = false := decide_eq_false (by omega)
          have dq2 : ((q : Int) == 0) = false := by rw [beq_eq_false_iff_ne]; omega
          have dq3 : decide ((q : Int) > 0) = true := decide_eq_true (by omega)
          have hY1 : Y1 = 3 := (Prod.mk.inj hyx).1
          have hIYe : IY = K3 := by have h1 := (Prod.mk.inj hyx).2; have := hIY.out; have := hK3.out; have := hMM.out; have := hI2.out; have := hK1.out; have := hK2.out; have := hO1.out; omega
          subst hY1 hIYe
          clear hY hB hz hyx
          go_wp2_with fail
          refine Calls.mono kd.out ?_
          rintro e w2 ⟨rfl, rfl⟩
          go_wp2_with fail
          refine Calls.mono kak.out ?_
          rintro e w2 ⟨rfl, rfl⟩
          go_wp2_with fail
          refine Calls.mono kd2.out ?_
          rintro e w2 ⟨rfl, rfl⟩
          go_wp2_with fail
          refine Calls.mono kex.out ?_
          rintro e w2 ⟨rfl, rfl⟩
          go_wp2
          go_meet
          all_goals first | exact ⟨rfl, rfl, rfl⟩ | (refine ⟨?_, ?_, ?_⟩ <;> first | rfl | (congr 1; omega))
      · have e46 : ((AK : Int) == 46) = false := by have := hv2.out; rw [beq_eq_false_iff_ne]; omega
        obtain ⟨MM, hMM⟩ : ∃ MM, MM = K1 - i := ⟨_, rfl⟩
        replace hMM : Hid _ := hMM
        have kex : Hid _ := exponent_at w2 ad cap i K1 l hB.out (by have := hI2.out; have := hK1.out; omega) (by omega) hl 101 69 (by decide) (by decide) (by decide)
        rw [← hL.out, ← hMM.out] at kex
        have hec := expR_cases L MM 101 69
        have hMN : MM = N1 := by have := hI2.out; have := hK1.out; have := hMM.out; omega
        have hyd := dec_nodot L N1 (by rw [hd2.out]; exact hN1.out) (by rw [hbd.out]; exact hdot)
        rw [hyd, ← hMN] at hyx
        clear hyd hbd hd2 hN1 hv2 hdot
        generalize expR L MM 101 69 = EE at *
        rcases hec with ⟨rfl, hne⟩ | ⟨rfl, hpe, hem⟩ | ⟨q, hq, rfl, hpe, hem⟩
        · rw [if_neg hne] at hyx
          clear hne
          have hb0 := hC0.out
          rw [if_neg (fun h => hx0 (by have := h.2; omega))] at hyx
          clear hb0 hC0 hC1
          by_cases hld : 1 < N1
          · have dl1 : decide ((N1 : Int) > 1) = true := decide_eq_true (by omega)
            have hY1 : Y1 = 2 := (Prod.mk.inj hyx).1
            have hIYe : IY = K1 := by have h1 := (Prod.mk.inj hyx).2; have := hIY.out; have := hMM.out; have := hI2.out; have := hK1.out; omega
            subst hY1 hIYe
            clear hY hB hz hyx
            go_wp2_with fail
            refine Calls.mono kd.out ?_
            rintro e w2 ⟨rfl, rfl⟩
            go_wp2_with fail
            refine Calls.mono kak.out ?_
            rintro e w2 ⟨rfl, rfl⟩
            go_wp2_with fail
            refine Calls.mono kex.out ?_
            rintro e w2 ⟨rfl, rfl⟩
            go_wp2
            go_meet
            all_goals first | exact ⟨rfl, rfl, rfl⟩ | (refine ⟨?_, ?_, ?_⟩ <;> first | rfl | (congr 1; omega))
          · have dl1 : decide ((N1 : Int) > 1) = false := decide_eq_false (by omega)
            have hY1 : Y1 = 2 := (Prod.mk.inj hyx).1
            have hIYe : IY = K1 := by have h1 := (Prod.mk.inj hyx).2; have := hIY.out; have := hMM.out; have := hI2.out; have := hK1.out; omega
            subst hY1 hIYe
            clear hY hB hz hyx
            go_wp2_with fail
            refine Calls.mono kd.out ?_
            rintro e w2 ⟨rfl, rfl⟩
            go_wp2_with fail
            refine Calls.mono kak.out ?_
            rintro e w2 ⟨rfl, rfl⟩
            go_wp2_with fail
            refine Calls.mono kex.out ?_
            rintro e w2 ⟨rfl, rfl⟩
            go_wp2
            go_meet
            all_goals first | exact ⟨rfl, rfl, rfl⟩ | (refine ⟨?_, ?_, ?_⟩ <;> first | rfl | (congr 1; omega))
        · rw [if_pos hpe, hem] at hyx
          clear hpe hem hC0 hC1
          have hy2 : Y2 = 0 := by exact (Prod.mk.inj hyx).2
          obtain rfl := hz.out hy2
          clear hy2
          clear hY hB hz hyx
          go_wp2_with fail
          refine Calls.mono kd.out ?_
          rintro e w2 ⟨rfl, rfl⟩
          go_wp2_with fail
          refine Calls.mono kak.out ?_
          rintro e w2 ⟨rfl, rfl⟩
          go_wp2_with fail
          refine Calls.mono kex.out ?_
          rintro e w2 ⟨rfl, rfl⟩
          go_wp2
          exact bodyPost_ret (v := .tuple #[.int .i64 0, .int .i64 0]) (by simp [results, Tryz.results68, go_sem]) rfl ⟨0, rfl, fun h => absurd rfl h, rfl⟩
        · rw [if_pos hpe, hem] at hyx
          clear hpe hem hC0 hC1
          have hYq : Hid (MM + q ≤ l.length) := by have h1 := (Prod.mk.inj hyx).2; have := hYl.out; show _ ≤ _; omega
          obtain ⟨K3, hK3⟩ : ∃ K3, K3 = K1 + q := ⟨_, rfl⟩
          replace hK3 : Hid _ := hK3
          have hw8 : IntKind.i64.wrap ((K1 : Int) + (q : Int)) = ((K3 : Nat) : Int) := by have := hK3.out; have := hMM.out; have := hIY.out; have := hYq.out; rw [IntKind.wrap_i64]; omega
          have dq1 : decide ((q : Int) < 0) = false := decide_eq_false (by omega)
          have dq2 : ((q : Int) == 0) = false := by rw [beq_eq_false_iff_ne]; omega
          have dq3 : decide ((q : Int) > 0) = true := decide_eq_true (by omega)
          have hY1 : Y1 = 3 := (Prod.mk.inj hyx).1
          have hIYe : IY = K3 := by have h1 := (Prod.mk.inj hyx).2; have := hIY.out; have := hK3.out; have := hMM.out; have := hI2.out; have := hK1.out; omega
          subst hY1 hIYe
          clear hY hB hz hyx
          go_wp2_with fail
          refine Calls.mono kd.out ?_
          rintro e w2 ⟨rfl, rfl⟩
          go_wp2_with fail
          refine Calls.mono kak.out ?_
          rintro e w2 ⟨rfl, rfl⟩
          go_wp2_with fail
          refine Calls.mono kex.out ?_
          rintro e w2 ⟨rfl, rfl⟩
          go_wp2
          go_meet
          all_goals first | exact ⟨rfl, rfl, rfl⟩ | (refine ⟨?_, ?_, ?_⟩ <;> first | rfl | (congr 1; omega))
end Nn
end Go.Proofs.YthiiglhecajhbaaGreat
