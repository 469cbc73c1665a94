/- scan: numbers to the base 16 by the library: internal ParseUint at up to four bytes. -/
import Derived.Test.YtfbacidpjpghiaaGreatDoorSgm
import Derived.Test.YtfbacidpjpghiaaGreatDoorSlam
import Derived.Lib.ConvBytes
import Derived.Laws.Closers25b
import Derived.Lib.AtoiErrMem
import Derived.Laws.BytesString
import Derived.Laws.IdiomStrings
import Derived.Laws.Runes
namespace Go.Proofs.YtfbacidpjpghiaaGreatDoor
open Go.RowKit
attribute [local go_sem ↓] Go.wp_at_zero Go.wp_at_succ
/-- A digit's worth to the base 16. -/
def hexD (c : Nat) : Nat := if c ≤ 57 then c - 48 else if c ≤ 70 then c - 55 else c - 87
def isHexN (c : Nat) : Bool := decide (48 ≤ c ∧ c ≤ 57) || decide ((97 ≤ c ∧ c ≤ 102) ∨ (65 ≤ c ∧ c ≤ 70))
/-- The number of digits to the base 16; none where another byte stands. -/
def hexGo (v : Nat) : List UInt8 → Option Nat
  | [] => some v
  | c :: r => if isHexN c.toNat = true then hexGo (16 * v + hexD c.toNat) r else none
/-- What a letter's small form is. -/
def lowN (c : Nat) : Nat := (bits .or .u8 (c : Int) 32).toNat
theorem low_fin : ∀ c : Fin 256, (bits .or .u8 ((c.val : Nat) : Int) 32) = ((lowN c.val : Nat) : Int) ∧ lowN c.val < 256 ∧ (¬ (48 ≤ c.val ∧ c.val ≤ 57) → isHexN c.val = true → 97 ≤ lowN c.val ∧ lowN c.val ≤ 102 ∧ lowN c.val - 97 + 10 = hexD c.val) ∧ (isHexN c.val = false → ¬ (97 ≤ lowN c.val ∧ lowN c.val ≤ 102)) ∧ ((48 ≤ c.val ∧ c.val ≤ 57) → isHexN c.val = true ∧ hexD c.val = c.val - 48) ∧ hexD c.val < 256 := by decide +kernel
theorem low_at (c : Nat) (h : c < 256) : (bits .or .u8 (c : Int) 32) = ((lowN c : Nat) : Int) ∧ lowN c < 256 ∧ (¬ (48 ≤ c ∧ c ≤ 57) → isHexN c = true → 97 ≤ lowN c ∧ lowN c ≤ 102 ∧ lowN c - 97 + 10 = hexD c) ∧ (isHexN c = false → ¬ (97 ≤ lowN c ∧ lowN c ≤ 102)) ∧ ((48 ≤ c ∧ c ≤ 57) → isHexN c = true ∧ hexD c = c - 48) ∧ hexD c < 256 := low_fin ⟨c, h⟩
theorem lower_at (c : Nat) (h : c < 256) (w : World) : Calls Tryz.prog 137 #[.int .u8 c] w fun e w' => e = .returned (.int .u8 (lowN c : Nat)) ∧ w' = w := by
  have := Tryz.internal_strconv_lower (c : Int) w
  rw [(low_at c h).1] at this
  exact this
def hexAns : Option Nat → Value
  | some v => .tuple #[.int .u64 v, .nilIface]
  | none => .tuple #[.int .u64 0, .iface 135 (.int .i64 2)]
set_option maxHeartbeats 32000000 in
set_option maxRecDepth 100000 in
theorem parse16_any (t : ByteArray) (hne : t.size ≠ 0) (h4 : t.size ≤ 4) (w : World) : Calls Tryz.prog 135 #[.string t, .int .i64 16, .int .i64 16] w fun e w' => e = .returned (hexAns (hexGo 0 t.toList)) ∧ w' = Lib.bytesWorld w 5 t := by
  have hemp : t.toList.isEmpty = false := by
    rw [← decide_eq_emptyBytes]
    exact decide_eq_false (fun h => hne (by rw [h]; rfl))
  have hcv := Lib.run_convert_string_bytes (P := Tryz.prog) w 9 22 5 t (u := .string) Tryz.underlying9 Tryz.underlying22 Tryz.underlying5
  have hB : ∀ j, j < t.size → (Lib.bytesWorld w 5 t).cell? ⟨w.heap.size, j, none⟩ = some (.int .u8 (t.data.toList.getD j 0).toNat) := fun j hj => Lib.bytesWorld_cell w 5 t j hj
  obtain ⟨W1, hW1⟩ : ∃ W1, W1 = Lib.bytesWorld w 5 t := ⟨_, rfl⟩
  rw [← hW1] at hcv hB ⊢
  clear hW1
  obtain ⟨bs, hL⟩ : ∃ bs, bs = t.data.toList := ⟨_, rfl⟩
  have hLn : bs.length = t.size := by rw [hL]; rfl
  have hTL : t.toList = bs := by rw [ByteArray.toList_eq, hL]
  rw [hTL]
  rw [← hL] at hB
  clear hL hTL
  have hmv : IntKind.u64.wrap (IntKind.u64.wrap 65536 - 1) = 65535 := by
    rw [IntKind.wrap_u64, IntKind.wrap_u64]
    decide
  obtain ⟨S, hS⟩ : ∃ S, S = hexGo 0 bs := ⟨_, rfl⟩
  rw [← hS]
  replace hS : Hid _ := hS
  go_enter Tryz.func135, Tryz.ntmps135
  go_wp2
  go_loop [12, 13, 101] (fun vu vn vi => ∃ (k acc : Nat) (a : Int), vu = .bool false ∧ vn = .int .u64 a ∧ vi = .int .i64 k ∧ k ≤ t.size ∧ Hid (a = (acc : Int) ∧ acc < 16 ^ k ∧ S = hexGo acc (bs.drop k)))
    (fun _ _ vi => t.size - (intOf vi).toNat)
  case atStart => exact ⟨0, 0, 0, rfl, rfl, rfl, by omega, ⟨rfl, by decide, by rw [List.drop_zero]; exact hS.out⟩⟩
  case round =>
    obtain ⟨k, acc, a, rfl, rfl, rfl, hk, hh⟩ := hrel
    obtain ⟨ha, hacc, hdec⟩ := hh.out
    clear hh
    by_cases hkn : k < t.size
    · have hc := hB k hkn
      have hdrop : bs.drop k = bs[k]'(by omega) :: bs.drop (k + 1) := List.drop_eq_getElem_cons (by omega)
      have hget : bs.getD k 0 = bs[k]'(by omega) := by simp [List.getD, List.getElem?_eq_getElem (show k < bs.length by omega)]
      rw [hdrop] at hdec
      rw [hget] at hc
      generalize bs[k]'(by omega) = c at hc hdec
      have hc256 : c.toNat < 256 := c.toNat_lt
      have hp : (16 : Nat) ^ k ≤ 16 ^ 3 := Nat.pow_le_pow_right (by decide) (by omega)
      have hps : (16 : Nat) ^ (k + 1) = 16 ^ k * 16 := Nat.pow_succ 16 k
      have ha0 : acc < 4096 := Nat.lt_of_lt_of_le hacc hp
      have a0 : 0 ≤ a := by omega
      have a1 : a ≤ 4095 := by omega
      obtain ⟨_, l256, lhex, lnot, ldig, d256⟩ := low_at c.toNat hc256
      have kl : Hid _ := lower_at c.toNat hc256
      unfold hexGo at hdec
      generalize lowN c.toNat = L at *
      generalize hC : c.toNat = C at *
      clear hB hdrop hget hp
      by_cases hdig : 48 ≤ C ∧ C ≤ 57
      · obtain ⟨ih, iv⟩ := ldig hdig
        rw [if_pos ih] at hdec
        have HN : Hid (a * 16 + ((C : Int) - 48) = ((16 * acc + hexD C : Nat) : Int) ∧ 16 * acc + hexD C < 16 ^ (k + 1) ∧ S = hexGo (16 * acc + hexD C) (bs.drop (k + 1))) := ⟨by omega, by omega, hdec⟩
        obtain ⟨g0, g1⟩ := hdig
        have iov : a * 16 + ((C : Int) - 48) ≤ 65535 := by omega
        clear hdec ldig lhex lnot hacc hps iv ih ha ha0 d256 l256
        go_wp2
        refine ⟨⟨k + 1, 16 * acc + hexD C, a * 16 + ((C : Int) - 48), rfl, (by first | rfl | (congr 1; omega)), (by first | rfl | (congr 1; omega)), by omega, HN⟩, by simp [intOf]; omega⟩
      · by_cases hx : isHexN C = true
        · obtain ⟨g0, g1, iv⟩ := lhex hdig hx
          rw [if_pos hx] at hdec
          have HN : Hid (a * 16 + ((L : Int) - 97 + 10) = ((16 * acc + hexD C : Nat) : Int) ∧ 16 * acc + hexD C < 16 ^ (k + 1) ∧ S = hexGo (16 * acc + hexD C) (bs.drop (k + 1))) := ⟨by omega, by omega, hdec⟩
          have iov : a * 16 + ((L : Int) - 97 + 10) ≤ 65535 := by omega
          have hn95 : C ≠ 95 := by rintro rfl; revert hx; decide
          have e95 : ((C : Int) == 95) = false := by simp; omega
          have h57 : 57 < C := by
            rcases Nat.lt_or_ge 57 C with h | h
            · exact h
            · exfalso
              have h48 : C < 48 := by omega
              unfold isHexN at hx
              simp at hx
              omega
          clear hdec ldig lhex lnot hacc hps hx ha ha0 d256 iv hn95 hdig
          go_wp2_with fail
          all_goals first | (refine Calls.mono (kl.out _) ?_; rintro e w' ⟨rfl, rfl⟩; go_wp2_with fail) | skip
          all_goals first | (refine Calls.mono (kl.out _) ?_; rintro e w' ⟨rfl, rfl⟩; go_wp2_with fail) | skip
          all_goals first | (refine Calls.mono (kl.out _) ?_; rintro e w' ⟨rfl, rfl⟩; go_wp2_with fail) | skip
          all_goals refine ⟨⟨k + 1, 16 * acc + hexD C, a * 16 + ((L : Int) - 97 + 10), rfl, (by first | rfl | (congr 1; omega)), (by first | rfl | (congr 1; omega)), by omega, HN⟩, by simp [intOf]; omega⟩
        · have hx' : isHexN C = false := by simpa using hx
          have hno := lnot hx'
          rw [if_neg hx] at hdec
          subst hdec
          clear ldig lhex lnot hacc hps ha ha0 d256 hx hx'
          by_cases c95 : C = 95
          · subst c95
            have kl' : Hid (∀ w, Calls Tryz.prog 137 #[.int .u8 95] w fun e w' => e = .returned (.int .u8 (L : Nat)) ∧ w' = w) := kl.out
            have hc' : W1.cell? ⟨w.heap.size, k, none⟩ = some (.int .u8 95) := hc
            clear kl hc
            rcases (show L < 97 ∨ 102 < L by omega) with hl | hl
            · clear hno
              go_wp2_with fail
              all_goals first | (refine Calls.mono (kl'.out _) ?_; rintro e w' ⟨rfl, rfl⟩; go_wp2_with fail) | skip
              all_goals first | (refine Calls.mono (kl'.out _) ?_; rintro e w' ⟨rfl, rfl⟩; go_wp2_with fail) | skip
              all_goals first | (refine Calls.mono (kl'.out _) ?_; rintro e w' ⟨rfl, rfl⟩; go_wp2_with fail) | skip
              all_goals go_ret2
              all_goals exact ⟨rfl, rfl⟩
            · have hl' : 6 ≤ (L : Int) - 97 := by omega
              clear hno
              go_wp2_with fail
              all_goals first | (refine Calls.mono (kl'.out _) ?_; rintro e w' ⟨rfl, rfl⟩; go_wp2_with fail) | skip
              all_goals first | (refine Calls.mono (kl'.out _) ?_; rintro e w' ⟨rfl, rfl⟩; go_wp2_with fail) | skip
              all_goals first | (refine Calls.mono (kl'.out _) ?_; rintro e w' ⟨rfl, rfl⟩; go_wp2_with fail) | skip
              all_goals go_ret2
              all_goals exact ⟨rfl, rfl⟩
          · have e95 : ((C : Int) == 95) = false := by simp; omega
            clear c95
            rcases (show L < 97 ∨ 102 < L by omega) with hl | hl
            · clear hno
              go_wp2_with fail
              all_goals first | (refine Calls.mono (kl.out _) ?_; rintro e w' ⟨rfl, rfl⟩; go_wp2_with fail) | skip
              all_goals first | (refine Calls.mono (kl.out _) ?_; rintro e w' ⟨rfl, rfl⟩; go_wp2_with fail) | skip
              all_goals first | (refine Calls.mono (kl.out _) ?_; rintro e w' ⟨rfl, rfl⟩; go_wp2_with fail) | skip
              all_goals go_ret2
              all_goals exact ⟨rfl, rfl⟩
            · have hl' : 6 ≤ (L : Int) - 97 := by omega
              clear hno
              go_wp2_with fail
              all_goals first | (refine Calls.mono (kl.out _) ?_; rintro e w' ⟨rfl, rfl⟩; go_wp2_with fail) | skip
              all_goals first | (refine Calls.mono (kl.out _) ?_; rintro e w' ⟨rfl, rfl⟩; go_wp2_with fail) | skip
              all_goals first | (refine Calls.mono (kl.out _) ?_; rintro e w' ⟨rfl, rfl⟩; go_wp2_with fail) | skip
              all_goals go_ret2
              all_goals exact ⟨rfl, rfl⟩
    · have hkk : k = t.size := by omega
      subst hkk
      have hF : hexGo acc (bs.drop t.size) = some acc := by rw [List.drop_eq_nil_of_le (by omega)]; rfl
      rw [hF] at hdec
      subst ha
      subst hdec
      clear hacc hF
      go_wp2
      go_ret2
      exact ⟨rfl, rfl⟩
end Go.Proofs.YtfbacidpjpghiaaGreatDoor
namespace Go.Proofs.YtfbacidpjpghiaaGreatDoor
open Go.RowKit
attribute [local go_sem ↓] Go.wp_at_zero Go.wp_at_succ
/-- What ParseUint answers: a number, or an error that is one. -/
def HexOut (e : Ending) : Option Nat → Prop
  | some v => e = .returned (.tuple #[.int .u64 v, .nilIface])
  | none => ∃ p, e = .returned (.tuple #[.int .u64 0, .iface 137 p])
set_option maxHeartbeats 4000000 in
set_option maxRecDepth 100000 in
theorem ParseUint_any (t : ByteArray) (hne : t.size ≠ 0) (h4 : t.size ≤ 4) (w : World) (hG : Glob w) : Calls Tryz.prog 133 #[.string t, .int .i64 16, .int .i64 16] w fun e w' => HexOut e (hexGo 0 t.toList) ∧ Below w.heap.size w w' := by
  have kp := parse16_any t hne h4 w
  have kb := Lib.bytesWorld_below w 5 t
  generalize Lib.bytesWorld w 5 t = W1 at *
  obtain ⟨⟨_, te, pe, hv⟩, _⟩ := hG.next kb
  cases hx : hexGo 0 t.toList with
  | some v =>
    rw [hx] at kp
    have kp' : Hid (Calls Tryz.prog 135 #[.string t, .int .i64 16, .int .i64 16] w fun e w' => e = .returned (.tuple #[.int .u64 v, .nilIface]) ∧ w' = W1) := kp
    clear kp hx hG hv
    go_enter Tryz.func133, Tryz.ntmps133
    go_wp2_with fail
    refine Calls.mono kp'.out ?_
    rintro e w2 ⟨rfl, rfl⟩
    go_wp2
    go_ret2
    exact ⟨rfl, kb⟩
  | none =>
    rw [hx] at kp
    have kp' : Hid (Calls Tryz.prog 135 #[.string t, .int .i64 16, .int .i64 16] w fun e w' => e = .returned (.tuple #[.int .u64 0, .iface 135 (.int .i64 2)]) ∧ w' = W1) := kp
    have ke : Hid _ := Tryz.strconv_toError_syntax ⟨#[80, 97, 114, 115, 101, 85, 105, 110, 116]⟩ t 16 16 _ W1 (by omega) hv (.inr ⟨te, pe, rfl⟩)
    clear kp hx hG hv
    go_enter Tryz.func133, Tryz.ntmps133
    go_wp2_with fail
    refine Calls.mono kp'.out ?_
    rintro e w2 ⟨rfl, rfl⟩
    go_wp2_with fail
    refine Calls.mono ke.out ?_
    rintro e w3 ⟨N, rfl, _, _, hb3⟩
    clear ke
    go_wp2
    go_ret2
    exact ⟨⟨_, rfl⟩, kb.trans (hb3.mono kb.size)⟩
/-- The number of an escape of n signs. -/
def hexAt (l : List UInt8) (n : Nat) : Option Nat := if l.length < n then none else hexGo 0 ((l.take n).drop 2)
set_option maxHeartbeats 4000000 in
set_option maxRecDepth 100000 in
theorem readHex_any (s : ByteArray) (n : Nat) (hn : n = 4 ∨ n = 6) (w : World) (hG : Glob w) (_hs : s.size < 4611686018427387904) : Calls Tryz.prog 128 #[.string s, .int .i64 n] w fun e w' => e = .returned (.tuple #[.int .u64 ((hexAt s.toList n).getD 0 : Nat), .bool (hexAt s.toList n).isSome]) ∧ Below w.heap.size w w' := by
  unfold hexAt
  rw [toList_len]
  by_cases hlt : s.size < n
  · rw [if_pos hlt]
    have d1 : decide ((s.size : Int) < n) = true := decide_eq_true (by omega)
    go_enter Tryz.func128, Tryz.ntmps128
    go_wp2
    go_ret2
    exact ⟨rfl, Below.refl _ _⟩
  · rw [if_neg hlt, ← toList_extract]
    have d1 : decide ((s.size : Int) < n) = false := decide_eq_false (by omega)
    have hsz : (s.extract 2 n).size = n - 2 := by rw [ByteArray.size_extract]; omega
    have kp : Hid _ := ParseUint_any (s.extract 2 n) (by omega) (by omega) w hG
    clear hsz hG
    generalize hexGo 0 (s.extract 2 n).toList = H at *
    go_enter Tryz.func128, Tryz.ntmps128
    go_wp2_with fail
    refine Calls.mono kp.out ?_
    rintro e w2 ⟨he, hb⟩
    clear kp
    cases H with
    | some v =>
      obtain rfl : e = .returned (.tuple #[.int .u64 v, .nilIface]) := he

      go_wp2_with fail
      go_region
      all_goals go_wp2
      all_goals go_ret2
      all_goals exact ⟨rfl, by first | exact hb | exact hb.drew⟩
    | none =>
      obtain ⟨p, rfl⟩ : ∃ p, e = .returned (.tuple #[.int .u64 0, .iface 137 p]) := he
      go_wp2_with fail
      go_region
      all_goals go_wp2
      all_goals go_ret2
      all_goals exact ⟨rfl, by first | exact hb | exact hb.drew⟩
end Go.Proofs.YtfbacidpjpghiaaGreatDoor
namespace Go.Proofs.YtfbacidpjpghiaaGreatDoor
open Go.RowKit
attribute [local go_sem ↓] Go.wp_at_zero Go.wp_at_succ
/-- An escape of two digits: one byte. -/
def byteM (l : List UInt8) : List UInt8 × Nat := match hexAt l 4 with
  | none => ([], 0)
  | some v => ([UInt8.ofNat (v % 256)], 4)
/-- An escape of four digits: a code point. -/
def pointM (l : List UInt8) : List UInt8 × Nat := match hexAt l 6 with
  | none => ([], 0)
  | some v => if Lib.validRune (v : Int) = true then ((Utf8.encode (v : Int)).toList, 6) else ([], 0)
theorem hexD_lt (c : Nat) (h : isHexN c = true) : hexD c < 16 := by
  unfold isHexN at h
  simp at h
  unfold hexD
  split
  · omega
  · split <;> omega
theorem hexGo_lt (l : List UInt8) (a v B : Nat) (h : hexGo a l = some v) (ha : a < B) : v < B * 16 ^ l.length := by
  induction l generalizing a B with
  | nil =>
    unfold hexGo at h
    obtain rfl := Option.some.inj h
    simpa using ha
  | cons c l ih =>
    unfold hexGo at h
    split at h
    · rename_i hc
      have := hexD_lt _ hc
      have := ih _ (B * 16) h (by omega)
      rw [List.length_cons, Nat.pow_succ, Nat.mul_comm (16 ^ l.length) 16, ← Nat.mul_assoc]
      exact this
    · cases h
theorem hexAt_lt (l : List UInt8) (n v : Nat) (h : hexAt l n = some v) (hn : n ≤ 6) : v < 65536 := by
  unfold hexAt at h
  split at h
  · cases h
  · have := hexGo_lt _ 0 v 1 h (by decide)
    have hl : ((l.take n).drop 2).length ≤ 4 := by simp; omega
    have := Nat.pow_le_pow_right (n := 16) (by decide) hl
    omega
set_option maxHeartbeats 4000000 in
set_option maxRecDepth 100000 in
theorem readByte_any (s : ByteArray) (w : World) (hG : Glob w) (hs : s.size < 4611686018427387904) : Calls Tryz.prog 117 #[.string s] w fun e w' => ∃ b : ByteArray, e = .returned (.tuple #[.string b, .int .i64 (byteM s.toList).2]) ∧ b.toList = (byteM s.toList).1 ∧ Below w.heap.size w w' := by
  have kh : Hid _ := readHex_any s 4 (.inl rfl) w hG hs
  have hlt := fun v => hexAt_lt s.toList 4 v
  obtain ⟨X, hX⟩ : ∃ X, X = byteM s.toList := ⟨_, rfl⟩
  rw [← hX]
  unfold byteM at hX
  clear hG
  generalize hexAt s.toList 4 = H at *
  go_enter Tryz.func117, Tryz.ntmps117
  go_wp2_with fail
  refine Calls.mono kh.out ?_
  rintro e w2 ⟨rfl, hb⟩
  clear kh
  cases H with
  | none =>
    obtain rfl : X = ([], 0) := hX
    clear hlt
    go_wp2
    exact bodyPost_ret (v := .tuple #[.string ⟨#[]⟩, .int .i64 0]) (by simp [results, Tryz.results117, go_sem]) rfl ⟨⟨#[]⟩, rfl, by rw [ByteArray.toList_eq], hb⟩
  | some v =>
    have hv := hlt v rfl (by decide)
    clear hlt
    have hw : IntKind.u8.wrap ((v : Int)) = ((v % 256 : Nat) : Int) := by rw [IntKind.wrap_u8]; omega
    have h256 : v % 256 < 256 := Nat.mod_lt _ (by decide)
    have hX' : X = ([UInt8.ofNat (v % 256)], 4) := hX
    clear hX
    generalize v % 256 = m at *
    subst hX'
    have hcv : (convert 22 9 (.slice (some ⟨w2.heap.size, 0, none⟩) 1 1)).run Tryz.prog (w2.alloc (.cells #[.int .u8 (m : Int)] 5)) = .ok (.string ⟨#[UInt8.ofNat m]⟩) (w2.alloc (.cells #[.int .u8 (m : Int)] 5)) := by
      refine Go.run_convert_bytes_back (P := Tryz.prog) (w2.alloc (.cells #[.int .u8 (m : Int)] 5)) 22 9 5 ⟨w2.heap.size, 0, none⟩ 1 [UInt8.ofNat m] Tryz.underlying22 Tryz.underlying5 Tryz.underlying9 ?_
      intro j hj
      obtain rfl : j = 0 := by simp at hj; omega
      show (w2.alloc (.cells #[.int .u8 (m : Int)] 5)).cell? ⟨w2.heap.size, 0, none⟩ = some (.int .u8 ((UInt8.ofNat m).toNat : Int))
      have : (UInt8.ofNat m).toNat = m := by simp; omega
      rw [this]
      have hh : (w2.alloc (.cells #[.int .u8 (m : Int)] 5)).heap[w2.heap.size]? = some (.cells #[.int .u8 (m : Int)] 5) := by
        show (w2.heap.push _)[w2.heap.size]? = _
        simp
      unfold World.cell?
      rw [hh]
      rfl
    go_wp2
    exact bodyPost_ret (v := .tuple #[.string ⟨#[UInt8.ofNat m]⟩, .int .i64 4]) (by simp [results, Tryz.results117, go_sem]) rfl ⟨⟨#[UInt8.ofNat m]⟩, rfl, by rw [ByteArray.toList_eq], hb.alloc hb.size _⟩
set_option maxHeartbeats 4000000 in
set_option maxRecDepth 100000 in
theorem readPoint_any (s : ByteArray) (w : World) (hG : Glob w) (hs : s.size < 4611686018427387904) : Calls Tryz.prog 118 #[.string s] w fun e w' => ∃ b : ByteArray, e = .returned (.tuple #[.string b, .int .i64 (pointM s.toList).2]) ∧ b.toList = (pointM s.toList).1 ∧ Below w.heap.size w w' := by
  have kh : Hid _ := readHex_any s 6 (.inr rfl) w hG hs
  have hlt := fun v => hexAt_lt s.toList 6 v
  obtain ⟨X, hX⟩ : ∃ X, X = pointM s.toList := ⟨_, rfl⟩
  rw [← hX]
  unfold pointM at hX
  clear hG
  generalize hexAt s.toList 6 = H at *
  go_enter Tryz.func118, Tryz.ntmps118
  go_wp2_with fail
  refine Calls.mono kh.out ?_
  rintro e w2 ⟨rfl, hb⟩
  clear kh
  cases H with
  | none =>
    obtain rfl : X = ([], 0) := hX
    clear hlt
    go_wp2
    exact bodyPost_ret (v := .tuple #[.string ⟨#[]⟩, .int .i64 0]) (by simp [results, Tryz.results118, go_sem]) rfl ⟨⟨#[]⟩, rfl, by rw [ByteArray.toList_eq], hb⟩
  | some v =>
    have hv := hlt v rfl (by decide)
    clear hlt
    have hw : IntKind.i32.wrap ((v : Int)) = (v : Int) := by rw [IntKind.wrap_i32]; omega
    have kr : Hid _ := Tryz.utf8_ValidRune (v : Int) w2
    simp only at hX
    generalize hE : Utf8.encode (v : Int) = E at *
    cases hr : Lib.validRune (v : Int) with
    | true =>
      rw [hr] at kr
      rw [hr, if_pos rfl] at hX
      subst hX
      go_wp2_with fail
      refine Calls.mono kr.out ?_
      rintro e w3 ⟨rfl, rfl⟩
      clear kr
      go_wp2
      exact bodyPost_ret (v := .tuple #[.string E, .int .i64 6]) (by simp [results, Tryz.results118, go_sem]) rfl ⟨E, rfl, rfl, hb⟩
    | false =>
      rw [hr] at kr
      rw [hr, if_neg (by decide)] at hX
      subst hX
      go_wp2_with fail
      refine Calls.mono kr.out ?_
      rintro e w3 ⟨rfl, rfl⟩
      clear kr
      go_wp2
      exact bodyPost_ret (v := .tuple #[.string ⟨#[]⟩, .int .i64 0]) (by simp [results, Tryz.results118, go_sem]) rfl ⟨⟨#[]⟩, rfl, by rw [ByteArray.toList_eq], hb⟩
end Go.Proofs.YtfbacidpjpghiaaGreatDoor
