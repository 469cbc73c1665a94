/- Contracts of complement and Bitwise. -/
import Derived.Test.YtdcjgepgiaaaoaaQuo
import Derived.Laws.CopyOwn
namespace Go.Proofs.Ytdcjgepgiaaaoaa
open Go.RowKit
attribute [local go_sem ↓] Go.wp_at_zero Go.wp_at_succ
theorem bits_not (x : Int) (h0 : 0 ≤ x) (h1 : x < 4294967296) : bits .xor .u32 IntKind.u32.max x = 4294967295 - x := by
  rw [show IntKind.u32.max = 4294967295 from by decide]
  obtain ⟨n, rfl⟩ := Int.eq_ofNat_of_zero_le h0
  have h2 : (BitVec.ofInt 32 (n : Int)).toNat = n := by rw [BitVec.ofInt_natCast, BitVec.toNat_ofNat]; exact Nat.mod_eq_of_lt (by omega)
  have h3 : BitVec.ofInt 32 4294967295 = BitVec.allOnes 32 := by decide
  show IntKind.u32.wrap ((BitVec.ofInt 32 4294967295 ^^^ BitVec.ofInt 32 (n : Int)).toNat : Int) = _
  rw [h3, BitVec.allOnes_xor, BitVec.toNat_not, h2]
  simp only [IntKind.wrap, IntKind.bits, IntKind.signed]
  simp
  omega
theorem comp_step {B : Int} {xs ss : List Int} {k : Nat} {c x s c' : Int} (hs : k < ss.length) (hx : xs[k]?.getD 0 = x) (hd : s + B * c' = B - 1 - x + c)
    (h : val B (ss.take k) + c * B ^ k = B ^ k - val B (xs.take k)) :
    val B ((ss.set k s).take (k + 1)) + c' * B ^ (k + 1) = B ^ (k + 1) - val B (xs.take (k + 1)) := by
  rw [val_set_take B ss k _ hs, val_take_succ B xs, hx, Int.pow_succ]
  have h3 : c' * (B ^ k * B) = B * c' * B ^ k := by rw [Int.mul_comm B, Int.mul_assoc, Int.mul_comm B]
  have h4 : (s + B * c') * B ^ k = (B - 1 - x + c) * B ^ k := by rw [hd]
  simp only [Int.add_mul, Int.sub_mul, Int.one_mul] at h4
  rw [h3, Int.mul_comm (B ^ k) B]
  omega
theorem comp_end {M v x c : Int} (h0 : 0 ≤ v) (h1 : v < M) (hc : c = 0 ∨ c = 1) (h : v + c * M = M - x) : v = (- x) % M := by
  rcases hc with rfl | rfl
  · have : -x = v + M * (-1) := by omega
    rw [this, Int.add_mul_emod_self_left, Int.emod_eq_of_lt h0 h1]
  · have : -x = v := by omega
    rw [this, Int.emod_eq_of_lt h0 h1]
theorem val_pad (B : Int) (xs : List Int) (n : Nat) : val B (xs ++ zeros n) = val B xs := by rw [val_append, zeros_val]; simp
theorem map_at (k : IntKind) (ps : List Int) (i : Nat) (hi : i < ps.length) : ((ps.map (Value.int k)).toArray)[i]? = some (.int k (ps[i]?.getD 0)) := by simp [hi]
/-- What complement makes of a magnitude. -/
def comp (B : Int) (n : Bool) (v : Int) (size : Nat) : Int := if n = true then (- v) % B ^ size else v
set_option maxRecDepth 20000 in
set_option maxHeartbeats 1000000 in
theorem complement_any (n : Bool) (x : Option Addr) (ca size : Nat) (xs : List Int) (w : World) (ha : Row w .u32 4294967296 x ca xs) (hs : size ≤ 1000000) (hl : xs.length ≤ size) :
    Calls Try.prog 56 #[.bool n, .slice x xs.length ca, .int .i64 size] w fun e w' => ∃ ss, e = .returned (.slice (some ⟨w.heap.size, 0, none⟩) size size) ∧ Blk w' w.heap.size .u32 61 size ss ∧ ss.length = size ∧ Words 4294967296 ss ∧ val 4294967296 ss = comp 4294967296 n (val 4294967296 xs) size ∧ Below w.heap.size w w' := by
  have hmk := mk22 (size : Int) (by omega) (by omega) w
  rw [show ((size : Int)).toNat = size from by omega] at hmk
  have hsz : (Try.prog.info? 61).map (·.size) = some 1 := by kernel_rfl
  have hbA : Below w.heap.size w (w.alloc (.cells (cellsOf .u32 (zeros size)) 61)) := (Below.refl _ _).alloc (Nat.le_refl _) _
  have haA := ha.next hbA
  have q1 : (w.alloc (.cells (cellsOf .u32 (zeros size)) 61)).heap[w.heap.size]? = some (.cells ((zeros size).map (Value.int .u32)).toArray 61 (0, 0)) := by
    show (w.heap.push _)[w.heap.size]? = _
    simp [cellsOf]
  have q2 : (xs.map (Value.int .u32)).length = Nat.min xs.length size := by rw [List.length_map]; exact (Nat.min_eq_left hl).symm
  have q3 : 0 < (xs.map (Value.int .u32)).length → some (⟨w.heap.size, 0, none⟩ : Addr) = some ⟨w.heap.size, 0, none⟩ ∧ ∃ ad, x = some ad ∧ ∀ j v, (xs.map (Value.int .u32))[j]? = some v → (w.alloc (.cells (cellsOf .u32 (zeros size)) 61)).cell? (ad.add j) = some v := by
    intro hp
    rw [List.length_map] at hp
    obtain ⟨a, rfl⟩ := ha.some_of hp
    exact ⟨rfl, a, rfl, news_of_row haA⟩
  have q4 : 0 + (xs.map (Value.int .u32)).length ≤ ((zeros size).map (Value.int .u32)).length := by rw [List.length_map, List.length_map, zeros_len]; omega
  replace q1 : Hid _ := q1
  replace q2 : Hid _ := q2
  replace q3 : Hid _ := q3
  replace q4 : Hid _ := q4
  have hkey : ∀ w1 : World, Hid (w1.heap[w.heap.size]? = some (.cells (splice ((zeros size).map (Value.int .u32)) 0 (xs.map (Value.int .u32))).toArray 61 (0, 0))) → Blk w1 w.heap.size .u32 61 size (xs ++ zeros (size - xs.length)) := by
    intro w1 hh
    refine ⟨_, hh.out, ?_, ?_, by unfold maxLen; omega, ?_⟩
    · rw [List.size_toArray, length_splice _ _ _ q4.out, List.length_map, zeros_len]
    · rw [List.length_append, zeros_len]; omega
    · intro i hi
      have e : splice ((zeros size).map (Value.int .u32)) 0 (xs.map (Value.int .u32)) = (xs ++ zeros (size - xs.length)).map (Value.int .u32) := by
        simp [splice, zeros]
      rw [e]
      exact map_at _ _ i hi
  have hcl := val_pad 4294967296 xs (size - xs.length)
  have hwp : Words 4294967296 (xs ++ zeros (size - xs.length)) := ha.words.append (zeros_words (by decide) _)
  have hlp : (xs ++ zeros (size - xs.length)).length = size := by rw [List.length_append, zeros_len]; omega
  generalize xs ++ zeros (size - xs.length) = ps at *
  rw [← hcl]
  replace hcl : Hid _ := hcl
  replace hkey : Hid _ := hkey
  replace hlp : Hid _ := hlp
  cases n
  · go_enter Try.func56, Try.ntmps56
    go_wp2_with (refine wpList_copy_splice (by rfl) (.tmp 13) (.tmp 14) 22 22 (by rfl) 61 Try.underlying22 hsz (some ⟨w.heap.size, 0, none⟩) x size size xs.length ca (by rfl) (by rfl) w.heap.size 0 ((zeros size).map (Value.int .u32)) 61 q1.out (xs.map (Value.int .u32)) q2.out q3.out q4.out (one_ints _ _) w.heap.size w hbA (Nat.le_refl _) ?_)
    intro w1 hh hb1
    have hblk := hkey.out w1 hh
    clear hh
    go_wp2
    go_ret
    exact ⟨ps, rfl, hblk, hlp.out, hwp, rfl, hb1⟩
  · go_enter Try.func56, Try.ntmps56
    go_wp2_with (refine wpList_copy_splice (by rfl) (.tmp 13) (.tmp 14) 22 22 (by rfl) 61 Try.underlying22 hsz (some ⟨w.heap.size, 0, none⟩) x size size xs.length ca (by rfl) (by rfl) w.heap.size 0 ((zeros size).map (Value.int .u32)) 61 q1.out (xs.map (Value.int .u32)) q2.out q3.out q4.out (one_ints _ _) w.heap.size w hbA (Nat.le_refl _) ?_)
    intro w1 hh hb1
    have hblk := hkey.out w1 hh
    clear hh
    go_wp2
    go_loopw [8, 9, 10, 21] (fun c u9 u10 i wr => ∃ (k : Nat) (cc : Int) (ss : List Int), k ≤ size ∧ i = .int .i64 k ∧ c = .int .u32 cc ∧ 0 ≤ cc ∧ cc ≤ 1 ∧ Blk wr w.heap.size .u32 61 size ss ∧ Hid (ss.length = size) ∧ Words 4294967296 ss ∧ Hid (∀ j, k ≤ j → ss[j]?.getD 0 = ps[j]?.getD 0) ∧ Hid (val 4294967296 (ss.take k) + cc * 4294967296 ^ k = 4294967296 ^ k - val 4294967296 (ps.take k)) ∧ Below w.heap.size w wr) (fun _ _ _ i _ => size - (intOf i).toNat)
    case atStart => exact ⟨0, 1, ps, Nat.zero_le _, rfl, rfl, by omega, by omega, hblk, hlp, hwp, fun _ _ => rfl, by simp [val, Hid], hb1⟩
    case round =>
      obtain ⟨k, cc, ss, hk, rfl, rfl, hc0, hc1, hblk, hsl, hsw, HE, HV, hbel⟩ := hrel
      by_cases hlt : k < size
      · obtain ⟨p, hp, hp0, hp1⟩ := hsw.get (by decide) k
        have hcs := hblk.cell k (by have := hsl.out; omega)
        rw [hp] at hcs
        have hfr := hblk.frozen k
        have hpp : ps[k]?.getD 0 = p := by rw [← HE.out k (Nat.le_refl _)]; exact hp
        obtain ⟨nt, hnt, hnv⟩ : ∃ nt, bits .xor .u32 IntKind.u32.max p = nt ∧ nt = 4294967295 - p := ⟨_, rfl, bits_not p hp0 hp1⟩
        have HS : Hid (Hid (val 4294967296 ((ss.set k ((nt + cc) % 4294967296)).take (k + 1)) + ((nt + cc) / 4294967296) * 4294967296 ^ (k + 1) = 4294967296 ^ (k + 1) - val 4294967296 (ps.take (k + 1)))) := comp_step (by have := hsl.out; omega) hpp (by omega) HV.out
        have hn0 : 0 ≤ nt := by omega
        have hn1 : nt < 4294967296 := by omega
        clear hp hpp HV hnv
        go_wp2_with (go_at_call 75; refine (add32 _ _ _ _ (by omega) (by omega) (by omega) (by omega) (by omega) (by omega)).mono ?_; rintro e w' ⟨rfl, rfl⟩)
        go_roundw
        case rel => exact ⟨k + 1, _, _, by omega, by go_num, rfl, by omega, by omega, hblk.set k _, by show _ = _; rw [List.length_set]; exact hsl.out, hsw.set k (by omega), fun j hj => by rw [List.getElem?_set_ne (by omega)]; exact HE.out j (by omega), HS, hbel.setCell (Nat.le_refl _) _⟩
        case measure => simp [intOf]; omega
      · obtain rfl : k = size := by omega
        go_wp2
        go_ret
        have HV' := HV.out
        have h2 := val_nonneg (by decide) hsw
        have h3 := val_lt (by decide) hsw
        rw [take_all (by have := hsl.out; omega), take_all (by have := hlp.out; omega)] at HV'
        rw [hsl.out] at h3
        exact ⟨ss, rfl, hblk, hsl.out, hsw, comp_end h2 h3 (by omega) HV', hbel⟩
end Go.Proofs.Ytdcjgepgiaaaoaa
