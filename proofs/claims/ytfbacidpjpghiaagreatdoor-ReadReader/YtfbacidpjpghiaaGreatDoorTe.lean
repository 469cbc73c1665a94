/- scan, the second road: a UTF-8 form's length, words. -/
import Derived.Test.YtfbacidpjpghiaaGreatDoorTd
namespace Go.Proofs.YtfbacidpjpghiaaGreatDoor
open Go.RowKit
attribute [local go_sem ↓] Go.wp_at_zero Go.wp_at_succ
/-- The bytes behind a first one, six bits each: f of them, from place k on. -/
def contGo (l : List UInt8) (v : Nat) : Nat → Nat → Option Nat
  | 0, _ => some v
  | f + 1, k => if (l.getD k 0).toNat / 64 ≠ 2 then none else contGo l (v * 64 + (l.getD k 0).toNat % 64) f (k + 1)
def utfEnd (n v least : Nat) : Nat := if v < least ∨ 1114111 < v ∨ (55296 ≤ v ∧ v < 57344) then 0 else n
def utfT (l : List UInt8) (i n v least : Nat) : Nat := if l.length < i + n then 0 else match contGo l v (n - 1) (i + 1) with
  | none => 0
  | some v => utfEnd n v least
/-- The length of a form at place i. -/
def utfM (l : List UInt8) (i : Nat) : Nat :=
  if (l.getD i 0).toNat < 128 then 1 else if 194 ≤ (l.getD i 0).toNat ∧ (l.getD i 0).toNat < 224 then utfT l i 2 ((l.getD i 0).toNat % 32) 128 else if 224 ≤ (l.getD i 0).toNat ∧ (l.getD i 0).toNat < 240 then utfT l i 3 ((l.getD i 0).toNat % 16) 2048 else if 240 ≤ (l.getD i 0).toNat ∧ (l.getD i 0).toNat < 245 then utfT l i 4 ((l.getD i 0).toNat % 8) 65536 else 0
theorem contGo_lt (l : List UInt8) (f v k r B : Nat) (h : contGo l v f k = some r) (hv : v < B) : r < B * 64 ^ f := by
  induction f generalizing v k B with
  | zero =>
    unfold contGo at h
    obtain rfl := Option.some.inj h
    simpa using hv
  | succ f ih =>
    unfold contGo at h
    split at h
    · cases h
    · have := ih _ _ (B * 64) h (by omega)
      rw [Nat.pow_succ, Nat.mul_comm (64 ^ f) 64, ← Nat.mul_assoc]
      exact this
set_option maxRecDepth 20000 in
set_option maxHeartbeats 4000000 in
theorem utf_any (w : World) (ad : Addr) (cap i : Nat) (l : List UInt8) (hB : BytesAt w ad l) (hi : i < l.length) (hl : l.length < 4611686018427387904) : Calls Tryz.prog 47 #[.slice (some ad) l.length cap, .int .i64 i] w fun e w' => e = .returned (.int .i64 (utfM l i : Nat)) ∧ w' = w := by
  have hc := hB i hi
  obtain ⟨S, hS⟩ : ∃ S, S = utfM l i := ⟨_, rfl⟩
  rw [← hS]
  unfold utfM at hS
  have hc256 : (l.getD i 0).toNat < 256 := UInt8.toNat_lt _
  generalize (l.getD i 0).toNat = C at *
  replace hB : Hid _ := hB
  by_cases c0 : C < 128
  · rw [if_pos c0] at hS
    subst hS
    clear hB
    go_enter Tryz.func47, Tryz.ntmps47
    go_wp2
    go_ret
    exact ⟨rfl, rfl⟩
  · rw [if_neg c0] at hS
    by_cases c1 : 194 ≤ C ∧ C < 224
    · rw [if_pos c1] at hS
      obtain ⟨g0, g1⟩ := c1
      have hm : C % 32 < 32 := Nat.mod_lt _ (by decide)
      have ht : (C : Int).tmod 32 = ((C % 32 : Nat) : Int) := by rw [Int.tmod_eq_emod_of_nonneg (by omega)]; omega
      generalize C % 32 = V at *
      unfold utfT at hS
      have hw0 : IntKind.i64.wrap ((i : Int) + 2) = (i : Int) + 2 := by rw [IntKind.wrap_i64]; omega
      by_cases hln : l.length < i + 2
      · rw [if_pos hln] at hS
        subst hS
        have dn : decide ((i : Int) + 2 > l.length) = true := decide_eq_true (by omega)
        clear hB
        go_enter Tryz.func47, Tryz.ntmps47
        go_wp2
        go_ret
        exact ⟨rfl, rfl⟩
      · rw [if_neg hln] at hS
        have dn : decide ((i : Int) + 2 > l.length) = false := decide_eq_false (by omega)
        have hlen : i + 2 ≤ l.length := by omega
        have hS' : S = (match contGo l V 1 (i + 1) with | none => 0 | some v => utfEnd 2 v 128) := hS
        replace hS : Hid _ := hS'
        clear hS' hln
        go_enter Tryz.func47, Tryz.ntmps47
        go_wp2
        go_loop [7, 9] (fun vv vk => ∃ (k V' : Nat), vk = .int .i64 k ∧ vv = .int .i64 V' ∧ 1 ≤ k ∧ k ≤ 2 ∧ V' < 32 * 64 ^ (k - 1) ∧ Hid (S = (match contGo l V' (2 - k) (i + k) with | none => 0 | some v => utfEnd 2 v 128))) (fun _ vk => 2 - (intOf vk).toNat)
        case atStart => exact ⟨1, V, rfl, rfl, Nat.le_refl _, by decide, by simpa using hm, hS⟩
        case round =>
          obtain ⟨k, X, rfl, rfl, hk1, hkn, hX, hI⟩ := hrel
          have hI' := hI.out
          clear hI hS
          have hpw : (64 : Nat) ^ (k - 1) ≤ 64 ^ 1 := Nat.pow_le_pow_right (by decide) (by omega)
          have hXb : X < 32 * 64 ^ 1 := Nat.lt_of_lt_of_le hX (Nat.mul_le_mul_left _ hpw)
          have hXs : X < 2048 := hXb
          by_cases hlt : k < 2
          · have hc2 := hB.out (i + k) (by omega)
            have dk : decide ((k : Int) < 2) = true := decide_eq_true (by omega)
            have hw1 : IntKind.i64.wrap ((i : Int) + k) = ((i + k : Nat) : Int) := by rw [IntKind.wrap_i64]; omega
            have hf : 2 - k = (2 - (k + 1)) + 1 := by omega
            rw [hf] at hI'
            unfold contGo at hI'
            have hd256 : (l.getD (i + k) 0).toNat < 256 := UInt8.toNat_lt _
            generalize (l.getD (i + k) 0).toNat = D at *
            have hq : (D : Int).tdiv 64 = ((D / 64 : Nat) : Int) := by rw [Int.tdiv_eq_ediv_of_nonneg (by omega)]; omega
            have hr : (D : Int).tmod 64 = ((D % 64 : Nat) : Int) := by rw [Int.tmod_eq_emod_of_nonneg (by omega)]; omega
            have hQm : ((D / 64 : Nat) : Int) % 256 = ((D / 64 : Nat) : Int) := by omega
            have hr64 : D % 64 < 64 := Nat.mod_lt _ (by decide)
            by_cases h2 : D / 64 = 2
            · rw [if_neg (by omega)] at hI'
              have e2 : (((D / 64 : Nat) : Int) != 2) = false := by simp; omega
              generalize D % 64 = R at *
              generalize D / 64 = Q at *
              have hpk : (64 : Nat) ^ (k + 1 - 1) = 64 ^ (k - 1) * 64 := by rw [← Nat.pow_succ]; congr 1; omega
              have hXn : X * 64 + R < 32 * 64 ^ (k + 1 - 1) := by rw [hpk]; generalize (64 : Nat) ^ (k - 1) = W at *; omega
              have hw2 : IntKind.i64.wrap ((X : Int) * 64) = (X : Int) * 64 := by rw [IntKind.wrap_i64]; omega
              have hw3 : IntKind.i64.wrap ((X : Int) * 64 + R) = (X : Int) * 64 + R := by rw [IntKind.wrap_i64]; omega
              have hI2 : Hid (S = (match contGo l (X * 64 + R) (2 - (k + 1)) (i + (k + 1)) with | none => 0 | some v => utfEnd 2 v 128)) := hI'
              clear hI' hpk hpw hX hXb hB hf h2
              go_wp2
              refine ⟨⟨k + 1, X * 64 + R, by go_num, by go_num, by omega, by omega, hXn, hI2⟩, by simp [intOf]; omega⟩
            · rw [if_pos h2] at hI'
              have e2 : (((D / 64 : Nat) : Int) != 2) = true := by simp; omega
              obtain rfl : S = 0 := hI'
              generalize D % 64 = R at *
              generalize D / 64 = Q at *
              have h2i : ¬ ((Q : Int) = 2) := by omega
              clear hpw hX hXb hB hf h2
              go_wp2
              all_goals first | (exfalso; omega) | (go_ret; exact ⟨rfl, rfl⟩)
          · have dk : decide ((k : Int) < 2) = false := decide_eq_false (by omega)
            have hk : 2 - k = 0 := by omega
            rw [hk] at hI'
            have hI2 : S = utfEnd 2 X 128 := hI'
            unfold utfEnd at hI2
            clear hI' hB hpw hX hXb hk
            by_cases c1 : X < 128
            · rw [if_pos (.inl c1)] at hI2
              subst hI2
              have b1 : decide ((X : Int) < 128) = true := decide_eq_true (by omega)
              go_wp2
              go_ret
              exact ⟨rfl, rfl⟩
            · have b1 : decide ((X : Int) < 128) = false := decide_eq_false (by omega)
              by_cases c2 : 1114111 < X
              · rw [if_pos (.inr (.inl c2))] at hI2
                subst hI2
                have b2 : decide ((X : Int) > 1114111) = true := decide_eq_true (by omega)
                go_wp2
                go_ret
                exact ⟨rfl, rfl⟩
              · have b2 : decide ((X : Int) > 1114111) = false := decide_eq_false (by omega)
                by_cases c3 : 55296 ≤ X
                · have b3 : decide ((X : Int) ≥ 55296) = true := decide_eq_true (by omega)
                  by_cases c4 : X < 57344
                  · rw [if_pos (.inr (.inr ⟨c3, c4⟩))] at hI2
                    subst hI2
                    have b4 : decide ((X : Int) < 57344) = true := decide_eq_true (by omega)
                    go_wp2
                    go_ret
                    exact ⟨rfl, rfl⟩
                  · rw [if_neg (by omega)] at hI2
                    subst hI2
                    have b4 : decide ((X : Int) < 57344) = false := decide_eq_false (by omega)
                    go_wp2
                    go_ret
                    exact ⟨rfl, rfl⟩
                · rw [if_neg (by omega)] at hI2
                  subst hI2
                  have b3 : decide ((X : Int) ≥ 55296) = false := decide_eq_false (by omega)
                  go_wp2
                  go_ret
                  exact ⟨rfl, rfl⟩
    · rw [if_neg c1] at hS
      by_cases c2 : 224 ≤ C ∧ C < 240
      · rw [if_pos c2] at hS
        obtain ⟨g0, g1⟩ := c2
        clear c1
        have hm : C % 16 < 16 := Nat.mod_lt _ (by decide)
        have ht : (C : Int).tmod 16 = ((C % 16 : Nat) : Int) := by rw [Int.tmod_eq_emod_of_nonneg (by omega)]; omega
        generalize C % 16 = V at *
        unfold utfT at hS
        have hw0 : IntKind.i64.wrap ((i : Int) + 3) = (i : Int) + 3 := by rw [IntKind.wrap_i64]; omega
        by_cases hln : l.length < i + 3
        · rw [if_pos hln] at hS
          subst hS
          have dn : decide ((i : Int) + 3 > l.length) = true := decide_eq_true (by omega)
          clear hB
          go_enter Tryz.func47, Tryz.ntmps47
          go_wp2
          go_ret
          exact ⟨rfl, rfl⟩
        · rw [if_neg hln] at hS
          have dn : decide ((i : Int) + 3 > l.length) = false := decide_eq_false (by omega)
          have hlen : i + 3 ≤ l.length := by omega
          have hS' : S = (match contGo l V 2 (i + 1) with | none => 0 | some v => utfEnd 3 v 2048) := hS
          replace hS : Hid _ := hS'
          clear hS' hln
          go_enter Tryz.func47, Tryz.ntmps47
          go_wp2
          go_loop [7, 9] (fun vv vk => ∃ (k V' : Nat), vk = .int .i64 k ∧ vv = .int .i64 V' ∧ 1 ≤ k ∧ k ≤ 3 ∧ V' < 16 * 64 ^ (k - 1) ∧ Hid (S = (match contGo l V' (3 - k) (i + k) with | none => 0 | some v => utfEnd 3 v 2048))) (fun _ vk => 3 - (intOf vk).toNat)
          case atStart => exact ⟨1, V, rfl, rfl, Nat.le_refl _, by decide, by simpa using hm, hS⟩
          case round =>
            obtain ⟨k, X, rfl, rfl, hk1, hkn, hX, hI⟩ := hrel
            have hI' := hI.out
            clear hI hS
            have hpw : (64 : Nat) ^ (k - 1) ≤ 64 ^ 2 := Nat.pow_le_pow_right (by decide) (by omega)
            have hXb : X < 16 * 64 ^ 2 := Nat.lt_of_lt_of_le hX (Nat.mul_le_mul_left _ hpw)
            have hXs : X < 65536 := hXb
            by_cases hlt : k < 3
            · have hc2 := hB.out (i + k) (by omega)
              have dk : decide ((k : Int) < 3) = true := decide_eq_true (by omega)
              have hw1 : IntKind.i64.wrap ((i : Int) + k) = ((i + k : Nat) : Int) := by rw [IntKind.wrap_i64]; omega
              have hf : 3 - k = (3 - (k + 1)) + 1 := by omega
              rw [hf] at hI'
              unfold contGo at hI'
              have hd256 : (l.getD (i + k) 0).toNat < 256 := UInt8.toNat_lt _
              generalize (l.getD (i + k) 0).toNat = D at *
              have hq : (D : Int).tdiv 64 = ((D / 64 : Nat) : Int) := by rw [Int.tdiv_eq_ediv_of_nonneg (by omega)]; omega
              have hr : (D : Int).tmod 64 = ((D % 64 : Nat) : Int) := by rw [Int.tmod_eq_emod_of_nonneg (by omega)]; omega
              have hQm : ((D / 64 : Nat) : Int) % 256 = ((D / 64 : Nat) : Int) := by omega
              have hr64 : D % 64 < 64 := Nat.mod_lt _ (by decide)
              by_cases h2 : D / 64 = 2
              · rw [if_neg (by omega)] at hI'
                have e2 : (((D / 64 : Nat) : Int) != 2) = false := by simp; omega
                generalize D % 64 = R at *
                generalize D / 64 = Q at *
                have hpk : (64 : Nat) ^ (k + 1 - 1) = 64 ^ (k - 1) * 64 := by rw [← Nat.pow_succ]; congr 1; omega
                have hXn : X * 64 + R < 16 * 64 ^ (k + 1 - 1) := by rw [hpk]; generalize (64 : Nat) ^ (k - 1) = W at *; omega
                have hw2 : IntKind.i64.wrap ((X : Int) * 64) = (X : Int) * 64 := by rw [IntKind.wrap_i64]; omega
                have hw3 : IntKind.i64.wrap ((X : Int) * 64 + R) = (X : Int) * 64 + R := by rw [IntKind.wrap_i64]; omega
                have hI2 : Hid (S = (match contGo l (X * 64 + R) (3 - (k + 1)) (i + (k + 1)) with | none => 0 | some v => utfEnd 3 v 2048)) := hI'
                clear hI' hpk hpw hX hXb hB hf h2
                go_wp2
                refine ⟨⟨k + 1, X * 64 + R, by go_num, by go_num, by omega, by omega, hXn, hI2⟩, by simp [intOf]; omega⟩
              · rw [if_pos h2] at hI'
                have e2 : (((D / 64 : Nat) : Int) != 2) = true := by simp; omega
                obtain rfl : S = 0 := hI'
                generalize D % 64 = R at *
                generalize D / 64 = Q at *
                have h2i : ¬ ((Q : Int) = 2) := by omega
                clear hpw hX hXb hB hf h2
                go_wp2
                all_goals first | (exfalso; omega) | (go_ret; exact ⟨rfl, rfl⟩)
            · have dk : decide ((k : Int) < 3) = false := decide_eq_false (by omega)
              have hk : 3 - k = 0 := by omega
              rw [hk] at hI'
              have hI2 : S = utfEnd 3 X 2048 := hI'
              unfold utfEnd at hI2
              clear hI' hB hpw hX hXb hk
              by_cases c1 : X < 2048
              · rw [if_pos (.inl c1)] at hI2
                subst hI2
                have b1 : decide ((X : Int) < 2048) = true := decide_eq_true (by omega)
                go_wp2
                go_ret
                exact ⟨rfl, rfl⟩
              · have b1 : decide ((X : Int) < 2048) = false := decide_eq_false (by omega)
                by_cases c2 : 1114111 < X
                · rw [if_pos (.inr (.inl c2))] at hI2
                  subst hI2
                  have b2 : decide ((X : Int) > 1114111) = true := decide_eq_true (by omega)
                  go_wp2
                  go_ret
                  exact ⟨rfl, rfl⟩
                · have b2 : decide ((X : Int) > 1114111) = false := decide_eq_false (by omega)
                  by_cases c3 : 55296 ≤ X
                  · have b3 : decide ((X : Int) ≥ 55296) = true := decide_eq_true (by omega)
                    by_cases c4 : X < 57344
                    · rw [if_pos (.inr (.inr ⟨c3, c4⟩))] at hI2
                      subst hI2
                      have b4 : decide ((X : Int) < 57344) = true := decide_eq_true (by omega)
                      go_wp2
                      go_ret
                      exact ⟨rfl, rfl⟩
                    · rw [if_neg (by omega)] at hI2
                      subst hI2
                      have b4 : decide ((X : Int) < 57344) = false := decide_eq_false (by omega)
                      go_wp2
                      go_ret
                      exact ⟨rfl, rfl⟩
                  · rw [if_neg (by omega)] at hI2
                    subst hI2
                    have b3 : decide ((X : Int) ≥ 55296) = false := decide_eq_false (by omega)
                    go_wp2
                    go_ret
                    exact ⟨rfl, rfl⟩
      · rw [if_neg c2] at hS
        by_cases c3 : 240 ≤ C ∧ C < 245
        · rw [if_pos c3] at hS
          obtain ⟨g0, g1⟩ := c3
          clear c1 c2
          have hm : C % 8 < 8 := Nat.mod_lt _ (by decide)
          have ht : (C : Int).tmod 8 = ((C % 8 : Nat) : Int) := by rw [Int.tmod_eq_emod_of_nonneg (by omega)]; omega
          generalize C % 8 = V at *
          unfold utfT at hS
          have hw0 : IntKind.i64.wrap ((i : Int) + 4) = (i : Int) + 4 := by rw [IntKind.wrap_i64]; omega
          by_cases hln : l.length < i + 4
          · rw [if_pos hln] at hS
            subst hS
            have dn : decide ((i : Int) + 4 > l.length) = true := decide_eq_true (by omega)
            clear hB
            go_enter Tryz.func47, Tryz.ntmps47
            go_wp2
            go_ret
            exact ⟨rfl, rfl⟩
          · rw [if_neg hln] at hS
            have dn : decide ((i : Int) + 4 > l.length) = false := decide_eq_false (by omega)
            have hlen : i + 4 ≤ l.length := by omega
            have hS' : S = (match contGo l V 3 (i + 1) with | none => 0 | some v => utfEnd 4 v 65536) := hS
            replace hS : Hid _ := hS'
            clear hS' hln
            go_enter Tryz.func47, Tryz.ntmps47
            go_wp2
            go_loop [7, 9] (fun vv vk => ∃ (k V' : Nat), vk = .int .i64 k ∧ vv = .int .i64 V' ∧ 1 ≤ k ∧ k ≤ 4 ∧ V' < 8 * 64 ^ (k - 1) ∧ Hid (S = (match contGo l V' (4 - k) (i + k) with | none => 0 | some v => utfEnd 4 v 65536))) (fun _ vk => 4 - (intOf vk).toNat)
            case atStart => exact ⟨1, V, rfl, rfl, Nat.le_refl _, by decide, by simpa using hm, hS⟩
            case round =>
              obtain ⟨k, X, rfl, rfl, hk1, hkn, hX, hI⟩ := hrel
              have hI' := hI.out
              clear hI hS
              have hpw : (64 : Nat) ^ (k - 1) ≤ 64 ^ 3 := Nat.pow_le_pow_right (by decide) (by omega)
              have hXb : X < 8 * 64 ^ 3 := Nat.lt_of_lt_of_le hX (Nat.mul_le_mul_left _ hpw)
              have hXs : X < 2097152 := hXb
              by_cases hlt : k < 4
              · have hc2 := hB.out (i + k) (by omega)
                have dk : decide ((k : Int) < 4) = true := decide_eq_true (by omega)
                have hw1 : IntKind.i64.wrap ((i : Int) + k) = ((i + k : Nat) : Int) := by rw [IntKind.wrap_i64]; omega
                have hf : 4 - k = (4 - (k + 1)) + 1 := by omega
                rw [hf] at hI'
                unfold contGo at hI'
                have hd256 : (l.getD (i + k) 0).toNat < 256 := UInt8.toNat_lt _
                generalize (l.getD (i + k) 0).toNat = D at *
                have hq : (D : Int).tdiv 64 = ((D / 64 : Nat) : Int) := by rw [Int.tdiv_eq_ediv_of_nonneg (by omega)]; omega
                have hr : (D : Int).tmod 64 = ((D % 64 : Nat) : Int) := by rw [Int.tmod_eq_emod_of_nonneg (by omega)]; omega
                have hQm : ((D / 64 : Nat) : Int) % 256 = ((D / 64 : Nat) : Int) := by omega
                have hr64 : D % 64 < 64 := Nat.mod_lt _ (by decide)
                by_cases h2 : D / 64 = 2
                · rw [if_neg (by omega)] at hI'
                  have e2 : (((D / 64 : Nat) : Int) != 2) = false := by simp; omega
                  generalize D % 64 = R at *
                  generalize D / 64 = Q at *
                  have hpk : (64 : Nat) ^ (k + 1 - 1) = 64 ^ (k - 1) * 64 := by rw [← Nat.pow_succ]; congr 1; omega
                  have hXn : X * 64 + R < 8 * 64 ^ (k + 1 - 1) := by rw [hpk]; generalize (64 : Nat) ^ (k - 1) = W at *; omega
                  have hw2 : IntKind.i64.wrap ((X : Int) * 64) = (X : Int) * 64 := by rw [IntKind.wrap_i64]; omega
                  have hw3 : IntKind.i64.wrap ((X : Int) * 64 + R) = (X : Int) * 64 + R := by rw [IntKind.wrap_i64]; omega
                  have hI2 : Hid (S = (match contGo l (X * 64 + R) (4 - (k + 1)) (i + (k + 1)) with | none => 0 | some v => utfEnd 4 v 65536)) := hI'
                  clear hI' hpk hpw hX hXb hB hf h2
                  go_wp2
                  refine ⟨⟨k + 1, X * 64 + R, by go_num, by go_num, by omega, by omega, hXn, hI2⟩, by simp [intOf]; omega⟩
                · rw [if_pos h2] at hI'
                  have e2 : (((D / 64 : Nat) : Int) != 2) = true := by simp; omega
                  obtain rfl : S = 0 := hI'
                  generalize D % 64 = R at *
                  generalize D / 64 = Q at *
                  have h2i : ¬ ((Q : Int) = 2) := by omega
                  clear hpw hX hXb hB hf h2
                  go_wp2
                  all_goals first | (exfalso; omega) | (go_ret; exact ⟨rfl, rfl⟩)
              · have dk : decide ((k : Int) < 4) = false := decide_eq_false (by omega)
                have hk : 4 - k = 0 := by omega
                rw [hk] at hI'
                have hI2 : S = utfEnd 4 X 65536 := hI'
                unfold utfEnd at hI2
                clear hI' hB hpw hX hXb hk
                by_cases c1 : X < 65536
                · rw [if_pos (.inl c1)] at hI2
                  subst hI2
                  have b1 : decide ((X : Int) < 65536) = true := decide_eq_true (by omega)
                  go_wp2
                  go_ret
                  exact ⟨rfl, rfl⟩
                · have b1 : decide ((X : Int) < 65536) = false := decide_eq_false (by omega)
                  by_cases c2 : 1114111 < X
                  · rw [if_pos (.inr (.inl c2))] at hI2
                    subst hI2
                    have b2 : decide ((X : Int) > 1114111) = true := decide_eq_true (by omega)
                    go_wp2
                    go_ret
                    exact ⟨rfl, rfl⟩
                  · have b2 : decide ((X : Int) > 1114111) = false := decide_eq_false (by omega)
                    by_cases c3 : 55296 ≤ X
                    · have b3 : decide ((X : Int) ≥ 55296) = true := decide_eq_true (by omega)
                      by_cases c4 : X < 57344
                      · rw [if_pos (.inr (.inr ⟨c3, c4⟩))] at hI2
                        subst hI2
                        have b4 : decide ((X : Int) < 57344) = true := decide_eq_true (by omega)
                        go_wp2
                        go_ret
                        exact ⟨rfl, rfl⟩
                      · rw [if_neg (by omega)] at hI2
                        subst hI2
                        have b4 : decide ((X : Int) < 57344) = false := decide_eq_false (by omega)
                        go_wp2
                        go_ret
                        exact ⟨rfl, rfl⟩
                    · rw [if_neg (by omega)] at hI2
                      subst hI2
                      have b3 : decide ((X : Int) ≥ 55296) = false := decide_eq_false (by omega)
                      go_wp2
                      go_ret
                      exact ⟨rfl, rfl⟩
        · rw [if_neg c3] at hS
          subst hS
          clear hB
          go_enter Tryz.func47, Tryz.ntmps47
          go_wp2
          all_goals go_ret
          all_goals exact ⟨rfl, rfl⟩
end Go.Proofs.YtfbacidpjpghiaaGreatDoor
