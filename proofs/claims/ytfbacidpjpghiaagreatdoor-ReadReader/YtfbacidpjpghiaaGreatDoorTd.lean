/- scan, the second road: digits, bytes at places, words. -/
import Derived.Test.YtfbacidpjpghiaaGreatDoorTcm
import Derived.Test.YtfbacidpjpghiaaGreatDoorScm
namespace Go.Proofs.YtfbacidpjpghiaaGreatDoor
open Go.RowKit
attribute [local go_sem ↓] Go.wp_at_zero Go.wp_at_succ
/-- The bytes l lie from an address on. -/
def BytesAt (w : World) (ad : Addr) (l : List UInt8) : Prop := ∀ j, j < l.length → w.cell? (ad.add j) = some (.int .u8 (l.getD j 0).toNat)
/-- A digit's worth, -1 where there is none. -/
def digN (c : Nat) : Int := if isHexN c = true then (hexD c : Int) else -1
theorem Digit_any (c : Nat) (hc : c < 256) (w : World) : Calls Tryz.prog 45 #[.int .u8 c] w fun e w' => e = .returned (.int .i64 (digN c)) ∧ w' = w := by
  by_cases h1 : 48 ≤ c ∧ c ≤ 57
  · obtain ⟨a0, a1⟩ := h1
    have hd : digN c = (c : Int) - 48 := by
      have : isHexN c = true := by unfold isHexN; simp; omega
      unfold digN; rw [if_pos this]; unfold hexD; rw [if_pos a1]; omega
    rw [hd]
    clear hd
    go_enter Tryz.func45, Tryz.ntmps45
    go_wp2
    go_ret
    exact ⟨by first | rfl | (congr 2; omega), rfl⟩
  · by_cases h2 : 97 ≤ c ∧ c ≤ 102
    · obtain ⟨a0, a1⟩ := h2
      have a2 : ¬ c ≤ 57 := by omega
      have hd : digN c = (c : Int) - 97 + 10 := by
        have : isHexN c = true := by unfold isHexN; simp; omega
        unfold digN; rw [if_pos this]; unfold hexD; rw [if_neg a2, if_neg (by omega)]; omega
      rw [hd]
      clear hd h1
      go_enter Tryz.func45, Tryz.ntmps45
      go_wp2
      go_ret
      exact ⟨by first | rfl | (congr 2; omega), rfl⟩
    · by_cases h3 : 65 ≤ c ∧ c ≤ 70
      · obtain ⟨a0, a1⟩ := h3
        have a2 : ¬ c ≤ 57 := by omega
        have hd : digN c = (c : Int) - 65 + 10 := by
          have : isHexN c = true := by unfold isHexN; simp; omega
          unfold digN; rw [if_pos this]; unfold hexD; rw [if_neg a2, if_pos a1]; omega
        rw [hd]
        clear hd h1 h2
        go_enter Tryz.func45, Tryz.ntmps45
        go_wp2
        go_ret
        exact ⟨by first | rfl | (congr 2; omega), rfl⟩
      · have hd : digN c = -1 := by
          have : ¬ isHexN c = true := by unfold isHexN; simp; omega
          unfold digN; rw [if_neg this]
        rw [hd]
        clear hd
        go_enter Tryz.func45, Tryz.ntmps45
        go_wp2
        all_goals go_ret
        all_goals exact ⟨rfl, rfl⟩
theorem digN_le (c : Nat) : -1 ≤ digN c ∧ digN c < 16 := by
  unfold digN
  split
  · rename_i h
    have := hexD_lt c h
    omega
  · omega
/-- A byte of a row, 0 behind its end. -/
theorem at_any (w : World) (ad : Addr) (cap i : Nat) (l : List UInt8) (hB : BytesAt w ad l) (_hi : i < 4611686018427387904) (_hl : l.length < 4611686018427387904) : Calls Tryz.prog 24 #[.slice (some ad) l.length cap, .int .i64 i] w fun e w' => e = .returned (.int .u8 (l.getD i 0).toNat) ∧ w' = w := by
  by_cases hlt : i < l.length
  · have hc := hB i hlt
    have d1 : decide ((i : Int) < l.length) = true := decide_eq_true (by omega)
    clear hB
    generalize (l.getD i 0).toNat = C at *
    go_enter Tryz.func24, Tryz.ntmps24
    go_wp2
    go_ret
    exact ⟨rfl, rfl⟩
  · have d1 : decide ((i : Int) < l.length) = false := decide_eq_false (by omega)
    have h0 : (l.getD i 0).toNat = 0 := by
      rw [List.getD_eq_getElem?_getD, List.getElem?_eq_none (by omega)]; rfl
    rw [h0]
    clear hB h0
    go_enter Tryz.func24, Tryz.ntmps24
    go_wp2
    go_ret
    exact ⟨rfl, rfl⟩
/-- How many digits to a base stand at the beginning. -/
def digsL (B : Int) : List UInt8 → Nat
  | [] => 0
  | c :: r => if digN c.toNat < 0 ∨ B ≤ digN c.toNat then 0 else digsL B r + 1
theorem digsL_le (B : Int) (l : List UInt8) : digsL B l ≤ l.length := by
  induction l with
  | nil => exact Nat.le_refl _
  | cons c r ih =>
    unfold digsL
    split
    · exact Nat.zero_le _
    · simp; exact ih
set_option maxRecDepth 20000 in
set_option maxHeartbeats 4000000 in
theorem digits_any (w : World) (ad : Addr) (cap i : Nat) (B : Int) (l : List UInt8) (hB : BytesAt w ad l) (hi : i < 4611686018427387904) (hl : l.length < 4611686018427387904) : Calls Tryz.prog 43 #[.slice (some ad) l.length cap, .int .i64 i, .int .i64 B] w fun e w' => e = .returned (.int .i64 (digsL B (l.drop i) : Nat)) ∧ w' = w := by
  obtain ⟨S, hS⟩ : ∃ S, S = digsL B (l.drop i) := ⟨_, rfl⟩
  have hSl : S ≤ l.length := by
    rw [hS]
    refine Nat.le_trans (digsL_le _ _) ?_
    simp
  rw [← hS]
  replace hS : Hid _ := hS
  replace hB : Hid _ := hB
  go_enter Tryz.func43, Tryz.ntmps43
  go_wp2
  go_loop [7] (fun n => ∃ k : Nat, n = .int .i64 k ∧ k ≤ S ∧ Hid (S = k + digsL B (l.drop (i + k)))) (fun n => S + 1 - (intOf n).toNat)
  case atStart => exact ⟨0, rfl, Nat.zero_le _, by rw [Nat.zero_add]; exact hS.out⟩
  case round =>
    obtain ⟨k, rfl, hk, hI⟩ := hrel
    have hI' := hI.out
    clear hI
    have hw : IntKind.i64.wrap ((i : Int) + k) = ((i + k : Nat) : Int) := by rw [IntKind.wrap_i64]; omega
    by_cases hlt : i + k < l.length
    · have d1 : decide (((i + k : Nat) : Int) < l.length) = true := decide_eq_true (by omega)
      have hc := hB.out (i + k) hlt
      have hdrop : l.drop (i + k) = l[i + k]'hlt :: l.drop (i + k + 1) := List.drop_eq_getElem_cons hlt
      have hget : l.getD (i + k) 0 = l[i + k]'hlt := by simp [List.getD, List.getElem?_eq_getElem hlt]
      rw [hdrop] at hI'
      rw [hget] at hc
      generalize l[i + k]'hlt = c at hc hI'
      have kd : Hid _ := fun w => Digit_any c.toNat c.toNat_lt w
      have hdl := digN_le c.toNat
      unfold digsL at hI'
      generalize c.toNat = C at *
      generalize digN C = D at *
      generalize hP : i + k = P at *
      obtain ⟨hd0, hd1⟩ := hdl
      clear hdrop hget
      by_cases h0 : D < 0
      · rw [if_pos (.inl h0)] at hI'
        have hkS : S = k := by omega
        have e0 : decide (D < 0) = true := decide_eq_true h0
        subst hkS
        clear hI' hB hS
        go_wp2_with fail
        refine Calls.mono (kd.out _) ?_
        rintro e w2 ⟨rfl, rfl⟩
        go_wp2
        go_ret
        exact ⟨rfl, rfl⟩
      · have e0 : decide (D < 0) = false := decide_eq_false h0
        by_cases h1 : B ≤ D
        · rw [if_pos (.inr h1)] at hI'
          have hkS : S = k := by omega
          have e1 : decide (D ≥ B) = true := decide_eq_true h1
          subst hkS
          clear hI' hB hS
          go_wp2_with fail
          refine Calls.mono (kd.out _) ?_
          rintro e w2 ⟨rfl, rfl⟩
          go_wp2
          go_ret
          exact ⟨rfl, rfl⟩
        · rw [if_neg (fun h => h.elim h0 h1)] at hI'
          have e1 : decide (D ≥ B) = false := decide_eq_false h1
          have hI2 : Hid (S = k + 1 + digsL B (l.drop (i + (k + 1)))) := by
            show S = _
            rw [← Nat.add_assoc i k 1, hP]
            omega
          have hkS : k + 1 ≤ S := by omega
          clear hI' hB hS
          go_wp2_with fail
          refine Calls.mono (kd.out _) ?_
          rintro e w2 ⟨rfl, rfl⟩
          go_wp2
          refine ⟨⟨k + 1, by go_num, hkS, hI2⟩, by simp [intOf]; omega⟩
    · have d1 : decide (((i + k : Nat) : Int) < l.length) = false := decide_eq_false (by omega)
      rw [List.drop_eq_nil_of_le (by omega)] at hI'
      have hkS : S = k := by simpa [digsL] using hI'
      subst hkS
      clear hI' hB hS
      go_wp2
      go_ret
      exact ⟨rfl, rfl⟩
end Go.Proofs.YtfbacidpjpghiaaGreatDoor
