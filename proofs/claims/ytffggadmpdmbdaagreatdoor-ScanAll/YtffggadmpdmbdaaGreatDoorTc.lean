/- scan: escapes of digits. -/
import Derived.Test.YtffggadmpdmbdaaGreatDoorTb
import Derived.Laws.BytesString
import Derived.Laws.IdiomStrings
import Derived.Laws.Runes
namespace Go.Proofs.YtffggadmpdmbdaaGreatDoor
open Go.RowKit
attribute [local go_sem ↓] Go.wp_at_zero Go.wp_at_succ
/-- An escape of two digits: one byte. -/
def byteM (l : List UInt8) : List UInt8 × Nat := match hexAt l 4 with
  | none => ([], 0)
  | some v => ([UInt8.ofNat (v % 256)], 4)
/-- An escape of four digits: a code point. -/
def pointM (l : List UInt8) : List UInt8 × Nat := match hexAt l 6 with
  | none => ([], 0)
  | some v => if Lib.validRune (v : Int) = true then ((Utf8.encode (v : Int)).toList, 6) else ([], 0)
theorem hexD_lt (c : Nat) (h : isHexN c = true) : hexD c < 16 := by
  unfold isHexN at h
  simp at h
  unfold hexD
  split
  · omega
  · split <;> omega
theorem hexGo_lt (l : List UInt8) (a v B : Nat) (h : hexGo a l = some v) (ha : a < B) : v < B * 16 ^ l.length := by
  induction l generalizing a B with
  | nil =>
    unfold hexGo at h
    obtain rfl := Option.some.inj h
    simpa using ha
  | cons c l ih =>
    unfold hexGo at h
    split at h
    · rename_i hc
      have := hexD_lt _ hc
      have := ih _ (B * 16) h (by omega)
      rw [List.length_cons, Nat.pow_succ, Nat.mul_comm (16 ^ l.length) 16, ← Nat.mul_assoc]
      exact this
    · cases h
theorem hexAt_lt (l : List UInt8) (n v : Nat) (h : hexAt l n = some v) (hn : n ≤ 6) : v < 65536 := by
  unfold hexAt at h
  split at h
  · cases h
  · have := hexGo_lt _ 0 v 1 h (by decide)
    have hl : ((l.take n).drop 2).length ≤ 4 := by simp; omega
    have := Nat.pow_le_pow_right (n := 16) (by decide) hl
    omega
set_option maxHeartbeats 4000000 in
set_option maxRecDepth 100000 in
theorem readByte_any (s : ByteArray) (w : World) (hG : Glob w) (hs : s.size < 4611686018427387904) : Calls Tryz.prog 46 #[.string s] w fun e w' => ∃ b : ByteArray, e = .returned (.tuple #[.string b, .int .i64 (byteM s.toList).2]) ∧ b.toList = (byteM s.toList).1 ∧ Below w.heap.size w w' := by
  have kh : Hid _ := readHex_any s 4 (.inl rfl) w hG hs
  have hlt := fun v => hexAt_lt s.toList 4 v
  obtain ⟨X, hX⟩ : ∃ X, X = byteM s.toList := ⟨_, rfl⟩
  rw [← hX]
  unfold byteM at hX
  clear hG
  generalize hexAt s.toList 4 = H at *
  go_enter Tryz.func46, Tryz.ntmps46
  go_wp2_with fail
  refine Calls.mono kh.out ?_
  rintro e w2 ⟨rfl, hb⟩
  clear kh
  cases H with
  | none =>
    obtain rfl : X = ([], 0) := hX
    clear hlt
    go_wp2
    exact bodyPost_ret (v := .tuple #[.string ⟨#[]⟩, .int .i64 0]) (by simp [results, Tryz.results46, go_sem]) rfl ⟨⟨#[]⟩, rfl, by rw [ByteArray.toList_eq], hb⟩
  | some v =>
    have hv := hlt v rfl (by decide)
    clear hlt
    have hw : IntKind.u8.wrap ((v : Int)) = ((v % 256 : Nat) : Int) := by rw [IntKind.wrap_u8]; omega
    have h256 : v % 256 < 256 := Nat.mod_lt _ (by decide)
    have hX' : X = ([UInt8.ofNat (v % 256)], 4) := hX
    clear hX
    generalize v % 256 = m at *
    subst hX'
    have hcv : (convert 22 9 (.slice (some ⟨w2.heap.size, 0, none⟩) 1 1)).run Tryz.prog (w2.alloc (.cells #[.int .u8 (m : Int)] 5)) = .ok (.string ⟨#[UInt8.ofNat m]⟩) (w2.alloc (.cells #[.int .u8 (m : Int)] 5)) := by
      refine Go.run_convert_bytes_back (P := Tryz.prog) (w2.alloc (.cells #[.int .u8 (m : Int)] 5)) 22 9 5 ⟨w2.heap.size, 0, none⟩ 1 [UInt8.ofNat m] Tryz.underlying22 Tryz.underlying5 Tryz.underlying9 ?_
      intro j hj
      obtain rfl : j = 0 := by simp at hj; omega
      show (w2.alloc (.cells #[.int .u8 (m : Int)] 5)).cell? ⟨w2.heap.size, 0, none⟩ = some (.int .u8 ((UInt8.ofNat m).toNat : Int))
      have : (UInt8.ofNat m).toNat = m := by simp; omega
      rw [this]
      have hh : (w2.alloc (.cells #[.int .u8 (m : Int)] 5)).heap[w2.heap.size]? = some (.cells #[.int .u8 (m : Int)] 5) := by
        show (w2.heap.push _)[w2.heap.size]? = _
        simp
      unfold World.cell?
      rw [hh]
      rfl
    go_wp2
    exact bodyPost_ret (v := .tuple #[.string ⟨#[UInt8.ofNat m]⟩, .int .i64 4]) (by simp [results, Tryz.results46, go_sem]) rfl ⟨⟨#[UInt8.ofNat m]⟩, rfl, by rw [ByteArray.toList_eq], hb.alloc hb.size _⟩
set_option maxHeartbeats 4000000 in
set_option maxRecDepth 100000 in
theorem readPoint_any (s : ByteArray) (w : World) (hG : Glob w) (hs : s.size < 4611686018427387904) : Calls Tryz.prog 47 #[.string s] w fun e w' => ∃ b : ByteArray, e = .returned (.tuple #[.string b, .int .i64 (pointM s.toList).2]) ∧ b.toList = (pointM s.toList).1 ∧ Below w.heap.size w w' := by
  have kh : Hid _ := readHex_any s 6 (.inr rfl) w hG hs
  have hlt := fun v => hexAt_lt s.toList 6 v
  obtain ⟨X, hX⟩ : ∃ X, X = pointM s.toList := ⟨_, rfl⟩
  rw [← hX]
  unfold pointM at hX
  clear hG
  generalize hexAt s.toList 6 = H at *
  go_enter Tryz.func47, Tryz.ntmps47
  go_wp2_with fail
  refine Calls.mono kh.out ?_
  rintro e w2 ⟨rfl, hb⟩
  clear kh
  cases H with
  | none =>
    obtain rfl : X = ([], 0) := hX
    clear hlt
    go_wp2
    exact bodyPost_ret (v := .tuple #[.string ⟨#[]⟩, .int .i64 0]) (by simp [results, Tryz.results47, go_sem]) rfl ⟨⟨#[]⟩, rfl, by rw [ByteArray.toList_eq], hb⟩
  | some v =>
    have hv := hlt v rfl (by decide)
    clear hlt
    have hw : IntKind.i32.wrap ((v : Int)) = (v : Int) := by rw [IntKind.wrap_i32]; omega
    have kr : Hid _ := Tryz.utf8_ValidRune (v : Int) w2
    simp only at hX
    generalize hE : Utf8.encode (v : Int) = E at *
    cases hr : Lib.validRune (v : Int) with
    | true =>
      rw [hr] at kr
      rw [hr, if_pos rfl] at hX
      subst hX
      go_wp2_with fail
      refine Calls.mono kr.out ?_
      rintro e w3 ⟨rfl, rfl⟩
      clear kr
      go_wp2
      exact bodyPost_ret (v := .tuple #[.string E, .int .i64 6]) (by simp [results, Tryz.results47, go_sem]) rfl ⟨E, rfl, rfl, hb⟩
    | false =>
      rw [hr] at kr
      rw [hr, if_neg (by decide)] at hX
      subst hX
      go_wp2_with fail
      refine Calls.mono kr.out ?_
      rintro e w3 ⟨rfl, rfl⟩
      clear kr
      go_wp2
      exact bodyPost_ret (v := .tuple #[.string ⟨#[]⟩, .int .i64 0]) (by simp [results, Tryz.results47, go_sem]) rfl ⟨⟨#[]⟩, rfl, by rw [ByteArray.toList_eq], hb⟩
end Go.Proofs.YtffggadmpdmbdaaGreatDoor
