/- scan: every token's kind and length. -/
import Derived.Test.YtffggadmpdmbdaaGreatDoorSi
namespace Go.Proofs.YtffggadmpdmbdaaGreatDoor
open Go.RowKit
attribute [local go_sem ↓] Go.wp_at_zero Go.wp_at_succ
def measureM (l : List UInt8) : Option (Int × Nat) :=
  if isLetterB (byteAt l 0) = true then some (nameM l) else if isDigitB (byteAt l 0) = true ∨ (byteAt l 0 = 46 ∧ 1 < l.length ∧ isDigitB (byteAt l 1) = true) then some (numberM l) else if byteAt l 0 = 34 ∨ byteAt l 0 = 96 then (strM l).map (fun n => (4, n)) else if byteAt l 0 = 59 then some (7, 1) else some (5, opL l)
theorem numberM_le (s : ByteArray) : (numberM s.toList).2 ≤ s.size := by
  unfold numberM
  split
  · exact Nat.zero_le _
  · exact basedM_le s
theorem measureM_le (s : ByteArray) (h0 : 0 < s.size) {k : Int} {n : Nat} (h : measureM s.toList = some (k, n)) : n ≤ s.size := by
  unfold measureM at h
  split at h
  · obtain ⟨_, rfl⟩ := Prod.mk.inj (Option.some.inj h); exact spanL_len _ s
  · split at h
    · have e := Option.some.inj h
      have := numberM_le s
      rw [e] at this
      exact this
    · split at h
      · cases hs : strM s.toList with
        | none => rw [hs] at h; cases h
        | some r =>
          rw [hs] at h
          have := strM_le s h0 hs
          obtain ⟨_, rfl⟩ := Prod.mk.inj (Option.some.inj h)
          exact this
      · split at h
        · obtain ⟨_, rfl⟩ := Prod.mk.inj (Option.some.inj h); exact h0
        · obtain ⟨_, rfl⟩ := Prod.mk.inj (Option.some.inj h)
          have := opGo_le s.toList (min 3 s.toList.length)
          rw [toList_len] at this
          unfold opL
          rw [toList_len]
          omega
theorem split_some {k k' : Int} {n n' : Nat} (h : some (k, n) = some (k', n')) : k = k' ∧ n = n' := Prod.mk.inj (Option.some.inj h)
theorem split_pair {p : Int × Nat} {k : Int} {n : Nat} (h : some p = some (k, n)) : k = p.1 ∧ n = p.2 := by
  have := Option.some.inj h
  subst this
  exact ⟨rfl, rfl⟩
set_option maxRecDepth 20000 in
set_option maxHeartbeats 4000000 in
theorem measure_any (s : ByteArray) (w : World) (hG : Glob w) (h0 : 0 < s.size) (k : Int) (n : Nat) (hM : measureM s.toList = some (k, n)) (hs : s.size < 4611686018427387904) : Calls Tryz.prog 45 #[.string s] w fun e w' => e = .returned (.tuple #[.int .i64 k, .int .i64 n]) ∧ Below w.heap.size w w' := by
  unfold measureM at hM
  rw [byteAt_lt s h0, toList_len] at hM
  have kl : Hid _ := fun w => isLetter_any ((s[0]'h0).toNat : Int) w
  have kg : Hid _ := fun w => isDigit_any ((s[0]'h0).toNat : Int) w
  have kn : Hid _ := fun w => measureNumber_any s w h0 hs
  generalize hC : ((s[0]'h0).toNat : Int) = C at *
  go_enter Tryz.func45, Tryz.ntmps45
  go_wp2_with fail
  refine Calls.mono (kl.out _) ?_
  rintro e w1 ⟨rfl, rfl⟩
  cases hl : isLetterB C with
  | true =>
    rw [if_pos hl] at hM
    have km : Hid _ := fun w => measureName_any s w (by omega)
    obtain ⟨rfl, rfl⟩ := split_pair hM
    clear hM hl
    go_wp2_with fail
    refine Calls.mono (km.out _) ?_
    rintro e w2 ⟨rfl, rfl⟩
    go_wp2
    exact bodyPost_ret (v := .tuple #[.int .i64 (nameM s.toList).1, .int .i64 (nameM s.toList).2]) (by simp [results, Tryz.results45, go_sem]) rfl ⟨rfl, Below.refl _ _⟩
  | false =>
    rw [if_neg (by rw [hl]; decide)] at hM
    clear hl
    go_wp2_with fail
    refine Calls.mono (kg.out _) ?_
    rintro e w2 ⟨rfl, rfl⟩
    cases hd : isDigitB C with
    | true =>
      rw [if_pos (.inl hd)] at hM
      obtain ⟨rfl, rfl⟩ := split_pair hM
      clear hM hd
      go_wp2_with fail
      refine Calls.mono (kn.out _) ?_
      rintro e w3 ⟨rfl, rfl⟩
      go_wp2
      exact bodyPost_ret (v := .tuple #[.int .i64 (numberM s.toList).1, .int .i64 (numberM s.toList).2]) (by simp [results, Tryz.results45, go_sem]) rfl ⟨rfl, Below.refl _ _⟩
    | false =>
      by_cases c46 : C = 46
      · have e46 : (C == 46) = true := by simp [c46]
        by_cases h1 : 1 < s.size
        · have d1 : decide ((s.size : Int) > 1) = true := decide_eq_true (by omega)
          have k1 : Hid _ := fun w => isDigit_any ((s[1]'h1).toNat : Int) w
          rw [byteAt_lt s h1] at hM
          go_wp2_with fail
          refine Calls.mono (k1.out _) ?_
          rintro e w3 ⟨rfl, rfl⟩
          cases hd1 : isDigitB ((s[1]'h1).toNat : Int) with
          | true =>
            rw [if_pos (.inr ⟨c46, h1, hd1⟩)] at hM
            obtain ⟨rfl, rfl⟩ := split_pair hM
            clear hM hd hd1
            go_wp2_with fail
            refine Calls.mono (kn.out _) ?_
            rintro e w4 ⟨rfl, rfl⟩
            go_wp2
            exact bodyPost_ret (v := .tuple #[.int .i64 (numberM s.toList).1, .int .i64 (numberM s.toList).2]) (by simp [results, Tryz.results45, go_sem]) rfl ⟨rfl, Below.refl _ _⟩
          | false =>
            rw [if_neg (by rw [hd, hd1]; simp), if_neg (by omega), if_neg (by omega)] at hM
            obtain ⟨rfl, rfl⟩ := split_some hM
            have ko : Hid _ := fun w => operatorLength_any s w hs
            clear hM
            go_wp2_with fail
            refine Calls.mono (ko.out _) ?_
            rintro e w3 ⟨rfl, rfl⟩
            go_wp2
            exact bodyPost_ret (v := .tuple #[.int .i64 5, .int .i64 (opL s.toList)]) (by simp [results, Tryz.results45, go_sem]) rfl ⟨rfl, Below.refl _ _⟩
        · have d1 : decide ((s.size : Int) > 1) = false := decide_eq_false (by omega)
          rw [if_neg (fun h => h.elim (fun h => by rw [hd] at h; cases h) (fun h => h1 h.2.1)), if_neg (by omega), if_neg (by omega)] at hM
          obtain ⟨rfl, rfl⟩ := split_some hM
          have ko : Hid _ := fun w => operatorLength_any s w hs
          clear hM
          go_wp2_with fail
          refine Calls.mono (ko.out _) ?_
          rintro e w3 ⟨rfl, rfl⟩
          go_wp2
          exact bodyPost_ret (v := .tuple #[.int .i64 5, .int .i64 (opL s.toList)]) (by simp [results, Tryz.results45, go_sem]) rfl ⟨rfl, Below.refl _ _⟩
      · have e46 : (C == 46) = false := by simp [c46]
        rw [if_neg (fun h => h.elim (fun h => by rw [hd] at h; cases h) (fun h => c46 h.1))] at hM
        by_cases c34 : C = 34
        · have e34 : (C == 34) = true := by simp [c34]
          rw [if_pos (.inl c34)] at hM
          obtain ⟨r, hr, hkn⟩ := Option.map_eq_some_iff.1 hM
          obtain ⟨rfl, rfl⟩ := Prod.mk.inj hkn
          have ks : Hid _ := fun w (hw : Glob w) => stringLength_any s w hw h0 _ hr hs
          clear hM hr hkn
          go_wp2_with fail
          refine Calls.mono (ks.out _ hG) ?_
          rintro e w3 ⟨rfl, hb⟩
          go_wp2
          exact bodyPost_ret (v := .tuple #[.int .i64 4, .int .i64 r]) (by simp [results, Tryz.results45, go_sem]) rfl ⟨rfl, hb⟩
        · have e34 : (C == 34) = false := by simp [c34]
          by_cases c96 : C = 96
          · have e96 : (C == 96) = true := by simp [c96]
            rw [if_pos (.inr c96)] at hM
            obtain ⟨r, hr, hkn⟩ := Option.map_eq_some_iff.1 hM
            obtain ⟨rfl, rfl⟩ := Prod.mk.inj hkn
            have ks : Hid _ := fun w (hw : Glob w) => stringLength_any s w hw h0 _ hr hs
            clear hM hr hkn
            go_wp2_with fail
            refine Calls.mono (ks.out _ hG) ?_
            rintro e w3 ⟨rfl, hb⟩
            go_wp2
            exact bodyPost_ret (v := .tuple #[.int .i64 4, .int .i64 r]) (by simp [results, Tryz.results45, go_sem]) rfl ⟨rfl, hb⟩
          · have e96 : (C == 96) = false := by simp [c96]
            rw [if_neg (fun h => h.elim c34 c96)] at hM
            by_cases c59 : C = 59
            · have e59 : (C == 59) = true := by simp [c59]
              rw [if_pos c59] at hM
              obtain ⟨rfl, rfl⟩ := split_some hM
              clear hM
              go_wp2
              exact bodyPost_ret (v := .tuple #[.int .i64 7, .int .i64 1]) (by simp [results, Tryz.results45, go_sem]) rfl ⟨rfl, Below.refl _ _⟩
            · have e59 : (C == 59) = false := by simp [c59]
              rw [if_neg c59] at hM
              obtain ⟨rfl, rfl⟩ := split_some hM
              have ko : Hid _ := fun w => operatorLength_any s w hs
              clear hM
              go_wp2_with fail
              refine Calls.mono (ko.out _) ?_
              rintro e w3 ⟨rfl, rfl⟩
              go_wp2
              exact bodyPost_ret (v := .tuple #[.int .i64 5, .int .i64 (opL s.toList)]) (by simp [results, Tryz.results45, go_sem]) rfl ⟨rfl, Below.refl _ _⟩
end Go.Proofs.YtffggadmpdmbdaaGreatDoor
