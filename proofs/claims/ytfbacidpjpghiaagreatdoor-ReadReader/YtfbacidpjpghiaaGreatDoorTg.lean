/- scan, the second road: code points as bytes; digits of escapes. -/
import Derived.Test.YtfbacidpjpghiaaGreatDoorTf
namespace Go.Proofs.YtfbacidpjpghiaaGreatDoor
open Go.RowKit
attribute [local go_sem ↓] Go.wp_at_zero Go.wp_at_succ
theorem byteAt_get (l : List UInt8) (k : Nat) (h : k < l.length) : byteAt l k = ((l.getD k 0).toNat : Int) := by
  unfold byteAt
  rw [List.drop_eq_getElem_cons h]
  simp [List.getD, List.getElem?_eq_getElem h]
theorem byteAt_drop (l : List UInt8) (k j : Nat) : byteAt (l.drop k) j = byteAt l (k + j) := by
  unfold byteAt
  rw [List.drop_drop]
theorem digN_hex (c : Nat) : (digN c < 0 ∨ 16 ≤ digN c) ↔ ¬ isHexN c = true := by
  unfold digN
  split
  · rename_i h
    have := hexD_lt c h
    constructor
    · intro h2; omega
    · intro h2; exact absurd h h2
  · rename_i h
    exact ⟨fun _ => h, fun _ => .inl (by decide)⟩
theorem hex_enough (m : List UInt8) (n a : Nat) (h : n ≤ digsL 16 m) : n ≤ m.length ∧ ∃ V, hexGo a (m.take n) = some V := by
  induction m generalizing n a with
  | nil =>
    unfold digsL at h
    obtain rfl : n = 0 := by omega
    exact ⟨Nat.le_refl _, a, rfl⟩
  | cons c m ih =>
    cases n with
    | zero => exact ⟨Nat.zero_le _, a, rfl⟩
    | succ n =>
      unfold digsL at h
      split at h
      · omega
      · rename_i hc
        have hx : isHexN c.toNat = true := by
          rcases Bool.eq_false_or_eq_true (isHexN c.toNat) with h2 | h2
          · exact h2
          · exact absurd ((digN_hex c.toNat).2 (by rw [h2]; decide)) hc
        obtain ⟨h1, V, h2⟩ := ih n (16 * a + hexD c.toNat) (by omega)
        refine ⟨by simp; exact h1, V, ?_⟩
        rw [List.take_succ_cons]
        unfold hexGo
        rw [if_pos hx]
        exact h2
theorem hex_less (m : List UInt8) (n a : Nat) (h : digsL 16 m < n) : m.length < n ∨ hexGo a (m.take n) = none := by
  induction m generalizing n a with
  | nil => exact .inl (by simpa [digsL] using h)
  | cons c m ih =>
    cases n with
    | zero => omega
    | succ n =>
      unfold digsL at h
      split at h
      · rename_i hc
        right
        rw [List.take_succ_cons]
        unfold hexGo
        rw [if_neg ((digN_hex _).1 hc)]
      · rename_i hc
        have hx : isHexN c.toNat = true := by
          rcases Bool.eq_false_or_eq_true (isHexN c.toNat) with h2 | h2
          · exact h2
          · exact absurd ((digN_hex c.toNat).2 (by rw [h2]; decide)) hc
        rcases ih n (16 * a + hexD c.toNat) (by omega) with h1 | h1
        · left; simp; exact h1
        · right
          rw [List.take_succ_cons]
          unfold hexGo
          rw [if_pos hx]
          exact h1
/-- The number of an escape by the digits that stand there. -/
theorem hexAt_digs (l : List UInt8) (k n : Nat) (hk : k + 2 ≤ l.length) : (digsL 16 (l.drop (k + 2)) < n → hexAt (l.drop k) (n + 2) = none) ∧ (n ≤ digsL 16 (l.drop (k + 2)) → k + 2 + n ≤ l.length ∧ hexAt (l.drop k) (n + 2) = hexGo 0 ((l.drop (k + 2)).take n) ∧ ∃ V, hexGo 0 ((l.drop (k + 2)).take n) = some V) := by
  have e : ((l.drop k).take (n + 2)).drop 2 = (l.drop (k + 2)).take n := by
    rw [List.drop_take, List.drop_drop]
    rfl
  unfold hexAt
  rw [e, List.length_drop]
  constructor
  · intro h
    rcases hex_less _ n 0 h with h1 | h1
    · rw [List.length_drop] at h1
      rw [if_pos (by omega)]
    · rw [h1]; split <;> rfl
  · intro h
    obtain ⟨h1, V, h2⟩ := hex_enough _ n 0 h
    rw [List.length_drop] at h1
    exact ⟨by omega, by rw [if_neg (by omega)], V, h2⟩
/-- A digit more. -/
theorem hexGo_step (m : List UInt8) (n j x V : Nat) (hj : j < n) (hn : n ≤ m.length) (h : hexGo x ((m.drop j).take (n - j)) = some V) : isHexN (m.getD j 0).toNat = true ∧ hexGo (16 * x + hexD (m.getD j 0).toNat) ((m.drop (j + 1)).take (n - (j + 1))) = some V := by
  have hlt : j < m.length := by omega
  rw [List.drop_eq_getElem_cons hlt, show n - j = (n - (j + 1)) + 1 by omega, List.take_succ_cons] at h
  have hg : m.getD j 0 = m[j]'hlt := by simp [List.getD, List.getElem?_eq_getElem hlt]
  rw [hg]
  unfold hexGo at h
  split at h
  · rename_i hx
    exact ⟨hx, h⟩
  · cases h
/-- A code point below 65536 as bytes. -/
def rune8M (v : Nat) : List UInt8 := if v < 128 then [UInt8.ofNat v] else if v < 2048 then [UInt8.ofNat (192 + v / 64), UInt8.ofNat (128 + v % 64)] else [UInt8.ofNat (224 + v / 4096), UInt8.ofNat (128 + v / 64 % 64), UInt8.ofNat (128 + v % 64)]
theorem encode_rune8 (v : Nat) (hv : v < 65536) (h : Lib.validRune (v : Int) = true) : (Utf8.encode (v : Int)).toList = rune8M v := by
  have hval : Utf8.valid (v : Int) = true := by
    unfold Lib.validRune at h
    simp at h
    unfold Utf8.valid
    simp
    omega
  rw [ByteArray.toList_eq]
  unfold Utf8.encode rune8M
  simp only [hval, if_true, Int.toNat_natCast]
  split
  · rfl
  · split
    · rfl
    · rfl
theorem u8_ofNat (n : Nat) (h : n < 256) : ((UInt8.ofNat n).toNat : Int) = (n : Int) := by
  have : (UInt8.ofNat n).toNat = n := by simp; omega
  rw [this]
set_option maxRecDepth 20000 in
set_option maxHeartbeats 4000000 in
theorem rune8_any (v : Nat) (hv : v < 65536) (w : World) : Calls Tryz.prog 46 #[.int .i64 v] w fun e w' => e = .returned (.slice (some ⟨w.heap.size, 0, none⟩) (rune8M v).length (rune8M v).length) ∧ w' = w.alloc (.cells (Lib.byteCells (rune8M v)).toArray 5) := by
  unfold rune8M
  by_cases c1 : v < 128
  · rw [if_pos c1]
    have hw : IntKind.u8.wrap (v : Int) = ((UInt8.ofNat v).toNat : Int) := by rw [u8_ofNat v (by omega), IntKind.wrap_u8]; omega
    have d1 : decide ((v : Int) < 128) = true := decide_eq_true (by omega)
    generalize UInt8.ofNat v = a at *
    clear c1
    go_enter Tryz.func46, Tryz.ntmps46
    go_wp2
    go_ret
    exact ⟨rfl, rfl⟩
  · rw [if_neg c1]
    have d1 : decide ((v : Int) < 128) = false := decide_eq_false (by omega)
    have q1 : (v : Int).tdiv 64 = ((v / 64 : Nat) : Int) := by rw [Int.tdiv_eq_ediv_of_nonneg (by omega)]; omega
    have m1 : (v : Int).tmod 64 = ((v % 64 : Nat) : Int) := by rw [Int.tmod_eq_emod_of_nonneg (by omega)]; omega
    by_cases c2 : v < 2048
    · rw [if_pos c2]
      have d2 : decide ((v : Int) < 2048) = true := decide_eq_true (by omega)
      have w1 : IntKind.u8.wrap (192 + ((v / 64 : Nat) : Int)) = ((UInt8.ofNat (192 + v / 64)).toNat : Int) := by rw [u8_ofNat _ (by omega), IntKind.wrap_u8]; omega
      have w2 : IntKind.u8.wrap (128 + ((v % 64 : Nat) : Int)) = ((UInt8.ofNat (128 + v % 64)).toNat : Int) := by rw [u8_ofNat _ (by omega), IntKind.wrap_u8]; omega
      have x1 : IntKind.i64.wrap ((v / 64 : Nat) : Int) = ((v / 64 : Nat) : Int) := by rw [IntKind.wrap_i64]; omega
      have x2 : IntKind.i64.wrap (192 + ((v / 64 : Nat) : Int)) = 192 + ((v / 64 : Nat) : Int) := by rw [IntKind.wrap_i64]; omega
      have x3 : IntKind.i64.wrap (128 + ((v % 64 : Nat) : Int)) = 128 + ((v % 64 : Nat) : Int) := by rw [IntKind.wrap_i64]; omega
      have b1 : v / 64 < 1024 := by omega
      have b2 : v % 64 < 64 := by omega
      generalize UInt8.ofNat (192 + v / 64) = a at *
      generalize UInt8.ofNat (128 + v % 64) = b at *
      generalize v / 64 = X at *
      generalize v % 64 = Y at *
      clear c1 c2
      go_enter Tryz.func46, Tryz.ntmps46
      go_wp2
      go_ret
      exact ⟨rfl, rfl⟩
    · rw [if_neg c2]
      have d2 : decide ((v : Int) < 2048) = false := decide_eq_false (by omega)
      have q2 : (v : Int).tdiv 4096 = ((v / 4096 : Nat) : Int) := by rw [Int.tdiv_eq_ediv_of_nonneg (by omega)]; omega
      have m2 : ((v / 64 : Nat) : Int).tmod 64 = ((v / 64 % 64 : Nat) : Int) := by rw [Int.tmod_eq_emod_of_nonneg (by omega)]; omega
      have w1 : IntKind.u8.wrap (224 + ((v / 4096 : Nat) : Int)) = ((UInt8.ofNat (224 + v / 4096)).toNat : Int) := by rw [u8_ofNat _ (by omega), IntKind.wrap_u8]; omega
      have w2 : IntKind.u8.wrap (128 + ((v / 64 % 64 : Nat) : Int)) = ((UInt8.ofNat (128 + v / 64 % 64)).toNat : Int) := by rw [u8_ofNat _ (by omega), IntKind.wrap_u8]; omega
      have w3 : IntKind.u8.wrap (128 + ((v % 64 : Nat) : Int)) = ((UInt8.ofNat (128 + v % 64)).toNat : Int) := by rw [u8_ofNat _ (by omega), IntKind.wrap_u8]; omega
      have b1 : v / 4096 < 16 := by omega
      have b2 : v / 64 % 64 < 64 := by omega
      have b3 : v % 64 < 64 := by omega
      have b4 : v / 64 < 1024 := by omega
      generalize UInt8.ofNat (224 + v / 4096) = a at *
      generalize UInt8.ofNat (128 + v / 64 % 64) = b at *
      generalize UInt8.ofNat (128 + v % 64) = c at *
      generalize v / 64 % 64 = Y at *
      generalize v / 64 = X at *
      generalize v % 64 = Z at *
      generalize v / 4096 = U at *
      clear c1 c2
      go_enter Tryz.func46, Tryz.ntmps46
      go_wp2
      go_ret
      exact ⟨rfl, rfl⟩
end Go.Proofs.YtfbacidpjpghiaaGreatDoor
