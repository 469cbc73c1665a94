/- scan: numbers to the base 16 by the library: internal ParseUint at up to four bytes. -/
import Derived.Test.YtffggadmpdmbdaaGreatDoorSg
import Derived.Test.YtffggadmpdmbdaaGreatDoorSla
import Derived.Lib.ConvBytes
import Derived.Laws.Closers25b
namespace Go.Proofs.YtffggadmpdmbdaaGreatDoor
open Go.RowKit
attribute [local go_sem ↓] Go.wp_at_zero Go.wp_at_succ
/-- A digit's worth to the base 16. -/
def hexD (c : Nat) : Nat := if c ≤ 57 then c - 48 else if c ≤ 70 then c - 55 else c - 87
def isHexN (c : Nat) : Bool := decide (48 ≤ c ∧ c ≤ 57) || decide ((97 ≤ c ∧ c ≤ 102) ∨ (65 ≤ c ∧ c ≤ 70))
/-- The number of digits to the base 16; none where another byte stands. -/
def hexGo (v : Nat) : List UInt8 → Option Nat
  | [] => some v
  | c :: r => if isHexN c.toNat = true then hexGo (16 * v + hexD c.toNat) r else none
/-- What a letter's small form is. -/
def lowN (c : Nat) : Nat := (bits .or .u8 (c : Int) 32).toNat
theorem low_fin : ∀ c : Fin 256, (bits .or .u8 ((c.val : Nat) : Int) 32) = ((lowN c.val : Nat) : Int) ∧ lowN c.val < 256 ∧ (¬ (48 ≤ c.val ∧ c.val ≤ 57) → isHexN c.val = true → 97 ≤ lowN c.val ∧ lowN c.val ≤ 102 ∧ lowN c.val - 97 + 10 = hexD c.val) ∧ (isHexN c.val = false → ¬ (97 ≤ lowN c.val ∧ lowN c.val ≤ 102)) ∧ ((48 ≤ c.val ∧ c.val ≤ 57) → isHexN c.val = true ∧ hexD c.val = c.val - 48) ∧ hexD c.val < 256 := by decide +kernel
theorem low_at (c : Nat) (h : c < 256) : (bits .or .u8 (c : Int) 32) = ((lowN c : Nat) : Int) ∧ lowN c < 256 ∧ (¬ (48 ≤ c ∧ c ≤ 57) → isHexN c = true → 97 ≤ lowN c ∧ lowN c ≤ 102 ∧ lowN c - 97 + 10 = hexD c) ∧ (isHexN c = false → ¬ (97 ≤ lowN c ∧ lowN c ≤ 102)) ∧ ((48 ≤ c ∧ c ≤ 57) → isHexN c = true ∧ hexD c = c - 48) ∧ hexD c < 256 := low_fin ⟨c, h⟩
theorem lower_at (c : Nat) (h : c < 256) (w : World) : Calls Tryz.prog 80 #[.int .u8 c] w fun e w' => e = .returned (.int .u8 (lowN c : Nat)) ∧ w' = w := by
  have := Tryz.internal_strconv_lower (c : Int) w
  rw [(low_at c h).1] at this
  exact this
def hexAns : Option Nat → Value
  | some v => .tuple #[.int .u64 v, .nilIface]
  | none => .tuple #[.int .u64 0, .iface 98 (.int .i64 2)]
set_option maxHeartbeats 32000000 in
set_option maxRecDepth 100000 in
theorem parse16_any (t : ByteArray) (hne : t.size ≠ 0) (h4 : t.size ≤ 4) (w : World) : Calls Tryz.prog 74 #[.string t, .int .i64 16, .int .i64 16] w fun e w' => e = .returned (hexAns (hexGo 0 t.toList)) ∧ w' = Lib.bytesWorld w 5 t := by
  have hemp : t.toList.isEmpty = false := by
    rw [← decide_eq_emptyBytes]
    exact decide_eq_false (fun h => hne (by rw [h]; rfl))
  have hcv := Lib.run_convert_string_bytes (P := Tryz.prog) w 9 22 5 t (u := .string) Tryz.underlying9 Tryz.underlying22 Tryz.underlying5
  have hB : ∀ j, j < t.size → (Lib.bytesWorld w 5 t).cell? ⟨w.heap.size, j, none⟩ = some (.int .u8 (t.data.toList.getD j 0).toNat) := fun j hj => Lib.bytesWorld_cell w 5 t j hj
  obtain ⟨W1, hW1⟩ : ∃ W1, W1 = Lib.bytesWorld w 5 t := ⟨_, rfl⟩
  rw [← hW1] at hcv hB ⊢
  clear hW1
  obtain ⟨bs, hL⟩ : ∃ bs, bs = t.data.toList := ⟨_, rfl⟩
  have hLn : bs.length = t.size := by rw [hL]; rfl
  have hTL : t.toList = bs := by rw [ByteArray.toList_eq, hL]
  rw [hTL]
  rw [← hL] at hB
  clear hL hTL
  have hmv : IntKind.u64.wrap (IntKind.u64.wrap 65536 - 1) = 65535 := by
    rw [IntKind.wrap_u64, IntKind.wrap_u64]
    decide
  obtain ⟨S, hS⟩ : ∃ S, S = hexGo 0 bs := ⟨_, rfl⟩
  rw [← hS]
  replace hS : Hid _ := hS
  go_enter Tryz.func74, Tryz.ntmps74
  go_wp2
  go_loop [12, 13, 101] (fun vu vn vi => ∃ (k acc : Nat) (a : Int), vu = .bool false ∧ vn = .int .u64 a ∧ vi = .int .i64 k ∧ k ≤ t.size ∧ Hid (a = (acc : Int) ∧ acc < 16 ^ k ∧ S = hexGo acc (bs.drop k)))
    (fun _ _ vi => t.size - (intOf vi).toNat)
  case atStart => exact ⟨0, 0, 0, rfl, rfl, rfl, by omega, ⟨rfl, by decide, by rw [List.drop_zero]; exact hS.out⟩⟩
  case round =>
    obtain ⟨k, acc, a, rfl, rfl, rfl, hk, hh⟩ := hrel
    obtain ⟨ha, hacc, hdec⟩ := hh.out
    clear hh
    by_cases hkn : k < t.size
    · have hc := hB k hkn
      have hdrop : bs.drop k = bs[k]'(by omega) :: bs.drop (k + 1) := List.drop_eq_getElem_cons (by omega)
      have hget : bs.getD k 0 = bs[k]'(by omega) := by simp [List.getD, List.getElem?_eq_getElem (show k < bs.length by omega)]
      rw [hdrop] at hdec
      rw [hget] at hc
      generalize bs[k]'(by omega) = c at hc hdec
      have hc256 : c.toNat < 256 := c.toNat_lt
      have hp : (16 : Nat) ^ k ≤ 16 ^ 3 := Nat.pow_le_pow_right (by decide) (by omega)
      have hps : (16 : Nat) ^ (k + 1) = 16 ^ k * 16 := Nat.pow_succ 16 k
      have ha0 : acc < 4096 := Nat.lt_of_lt_of_le hacc hp
      have a0 : 0 ≤ a := by omega
      have a1 : a ≤ 4095 := by omega
      obtain ⟨_, l256, lhex, lnot, ldig, d256⟩ := low_at c.toNat hc256
      have kl : Hid _ := lower_at c.toNat hc256
      unfold hexGo at hdec
      generalize lowN c.toNat = L at *
      generalize hC : c.toNat = C at *
      clear hB hdrop hget hp
      by_cases hdig : 48 ≤ C ∧ C ≤ 57
      · obtain ⟨ih, iv⟩ := ldig hdig
        rw [if_pos ih] at hdec
        have HN : Hid (a * 16 + ((C : Int) - 48) = ((16 * acc + hexD C : Nat) : Int) ∧ 16 * acc + hexD C < 16 ^ (k + 1) ∧ S = hexGo (16 * acc + hexD C) (bs.drop (k + 1))) := ⟨by omega, by omega, hdec⟩
        obtain ⟨g0, g1⟩ := hdig
        have iov : a * 16 + ((C : Int) - 48) ≤ 65535 := by omega
        clear hdec ldig lhex lnot hacc hps iv ih ha ha0 d256 l256
        go_wp2
        refine ⟨⟨k + 1, 16 * acc + hexD C, a * 16 + ((C : Int) - 48), rfl, (by first | rfl | (congr 1; omega)), (by first | rfl | (congr 1; omega)), by omega, HN⟩, by simp [intOf]; omega⟩
      · by_cases hx : isHexN C = true
        · obtain ⟨g0, g1, iv⟩ := lhex hdig hx
          rw [if_pos hx] at hdec
          have HN : Hid (a * 16 + ((L : Int) - 97 + 10) = ((16 * acc + hexD C : Nat) : Int) ∧ 16 * acc + hexD C < 16 ^ (k + 1) ∧ S = hexGo (16 * acc + hexD C) (bs.drop (k + 1))) := ⟨by omega, by omega, hdec⟩
          have iov : a * 16 + ((L : Int) - 97 + 10) ≤ 65535 := by omega
          have hn95 : C ≠ 95 := by rintro rfl; revert hx; decide
          have e95 : ((C : Int) == 95) = false := by simp; omega
          have h57 : 57 < C := by
            rcases Nat.lt_or_ge 57 C with h | h
            · exact h
            · exfalso
              have h48 : C < 48 := by omega
              unfold isHexN at hx
              simp at hx
              omega
          clear hdec ldig lhex lnot hacc hps hx ha ha0 d256 iv hn95 hdig
          go_wp2_with fail
          all_goals first | (refine Calls.mono (kl.out _) ?_; rintro e w' ⟨rfl, rfl⟩; go_wp2_with fail) | skip
          all_goals first | (refine Calls.mono (kl.out _) ?_; rintro e w' ⟨rfl, rfl⟩; go_wp2_with fail) | skip
          all_goals first | (refine Calls.mono (kl.out _) ?_; rintro e w' ⟨rfl, rfl⟩; go_wp2_with fail) | skip
          all_goals refine ⟨⟨k + 1, 16 * acc + hexD C, a * 16 + ((L : Int) - 97 + 10), rfl, (by first | rfl | (congr 1; omega)), (by first | rfl | (congr 1; omega)), by omega, HN⟩, by simp [intOf]; omega⟩
        · have hx' : isHexN C = false := by simpa using hx
          have hno := lnot hx'
          rw [if_neg hx] at hdec
          subst hdec
          clear ldig lhex lnot hacc hps ha ha0 d256 hx hx'
          by_cases c95 : C = 95
          · subst c95
            have kl' : Hid (∀ w, Calls Tryz.prog 80 #[.int .u8 95] w fun e w' => e = .returned (.int .u8 (L : Nat)) ∧ w' = w) := kl.out
            have hc' : W1.cell? ⟨w.heap.size, k, none⟩ = some (.int .u8 95) := hc
            clear kl hc
            rcases (show L < 97 ∨ 102 < L by omega) with hl | hl
            · clear hno
              go_wp2_with fail
              all_goals first | (refine Calls.mono (kl'.out _) ?_; rintro e w' ⟨rfl, rfl⟩; go_wp2_with fail) | skip
              all_goals first | (refine Calls.mono (kl'.out _) ?_; rintro e w' ⟨rfl, rfl⟩; go_wp2_with fail) | skip
              all_goals first | (refine Calls.mono (kl'.out _) ?_; rintro e w' ⟨rfl, rfl⟩; go_wp2_with fail) | skip
              all_goals go_ret2
              all_goals exact ⟨rfl, rfl⟩
            · have hl' : 6 ≤ (L : Int) - 97 := by omega
              clear hno
              go_wp2_with fail
              all_goals first | (refine Calls.mono (kl'.out _) ?_; rintro e w' ⟨rfl, rfl⟩; go_wp2_with fail) | skip
              all_goals first | (refine Calls.mono (kl'.out _) ?_; rintro e w' ⟨rfl, rfl⟩; go_wp2_with fail) | skip
              all_goals first | (refine Calls.mono (kl'.out _) ?_; rintro e w' ⟨rfl, rfl⟩; go_wp2_with fail) | skip
              all_goals go_ret2
              all_goals exact ⟨rfl, rfl⟩
          · have e95 : ((C : Int) == 95) = false := by simp; omega
            clear c95
            rcases (show L < 97 ∨ 102 < L by omega) with hl | hl
            · clear hno
              go_wp2_with fail
              all_goals first | (refine Calls.mono (kl.out _) ?_; rintro e w' ⟨rfl, rfl⟩; go_wp2_with fail) | skip
              all_goals first | (refine Calls.mono (kl.out _) ?_; rintro e w' ⟨rfl, rfl⟩; go_wp2_with fail) | skip
              all_goals first | (refine Calls.mono (kl.out _) ?_; rintro e w' ⟨rfl, rfl⟩; go_wp2_with fail) | skip
              all_goals go_ret2
              all_goals exact ⟨rfl, rfl⟩
            · have hl' : 6 ≤ (L : Int) - 97 := by omega
              clear hno
              go_wp2_with fail
              all_goals first | (refine Calls.mono (kl.out _) ?_; rintro e w' ⟨rfl, rfl⟩; go_wp2_with fail) | skip
              all_goals first | (refine Calls.mono (kl.out _) ?_; rintro e w' ⟨rfl, rfl⟩; go_wp2_with fail) | skip
              all_goals first | (refine Calls.mono (kl.out _) ?_; rintro e w' ⟨rfl, rfl⟩; go_wp2_with fail) | skip
              all_goals go_ret2
              all_goals exact ⟨rfl, rfl⟩
    · have hkk : k = t.size := by omega
      subst hkk
      have hF : hexGo acc (bs.drop t.size) = some acc := by rw [List.drop_eq_nil_of_le (by omega)]; rfl
      rw [hF] at hdec
      subst ha
      subst hdec
      clear hacc hF
      go_wp2
      go_ret2
      exact ⟨rfl, rfl⟩
end Go.Proofs.YtffggadmpdmbdaaGreatDoor
