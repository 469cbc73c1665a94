/- Contracts of the functions on magnitudes: trim, compare, add, subtract, multiply, Clone, number. -/
import Derived.Test.YthiiglhecajhbaaLeaf
namespace Go.Proofs.Ythiiglhecajhbaa
open Go.RowKit

theorem ret_slice {a : Option Addr} {c m n : Nat} (h : m = n) : Ending.returned (.slice a m c) = .returned (.slice a n c) := by rw [h]
theorem ret_int {k : IntKind} {a b : Int} (h : a = b) : Ending.returned (.int k a) = .returned (.int k b) := by rw [h]
set_option maxHeartbeats 400000 in
theorem trim_any (a : Option Addr) (cap : Nat) (zs : List Int) (w : World) (h : Row w .u32 4294967296 a cap zs) :
    Calls Try.prog 40 #[.slice a zs.length cap] w fun e w' => e = .returned (.slice a (trimmed zs).length cap) ∧ w' = w := by
  cases a with
  | none =>
    obtain ⟨rfl, rfl⟩ := h.nil_of
    go_enter Try.func40, Try.ntmps40
    go_wp2
    refine wp_loop_rounds 1 ?_
    rw [rounds_succ]
    go_wp2
    go_ret
    exact ⟨rfl, rfl⟩
  | some x =>
    obtain ⟨hle, hm, _, hcell, _⟩ := h
    replace hcell := hcell x rfl
    unfold maxLen at hm
    rw [trimmed_len]
    generalize hn : zs.length = n at *
    go_enter Try.func40, Try.ntmps40
    go_wp2
    go_loop [3] (fun t => ∃ k : Nat, k ≤ n ∧ t = .int .i64 k ∧ Hid (trimN zs k = trimN zs n)) (fun t => (intOf t).toNat)
    case atStart => exact ⟨n, Nat.le_refl _, rfl, rfl⟩
    case round =>
      obtain ⟨k, hk, rfl, H⟩ := hrel
      cases k with
      | zero =>
        go_wp2
        go_ret
        exact ⟨ret_slice (by rw [← H.out]; rfl), rfl⟩
      | succ k =>
        have hce := hcell k (by omega)
        go_wp2
        · have hz : (zs[k]?.getD 0 == 0) = true := by assumption
          have hz' : zs[k]?.getD 0 = 0 := by simpa using hz
          go_round
          case rel => exact ⟨k, by omega, rfl, by show trimN zs k = _; rw [← H.out]; simp [trimN, hz']⟩
          case measure => simp [intOf]
        · have hz : (zs[k]?.getD 0 == 0) = false := by assumption
          have hz' : zs[k]?.getD 0 ≠ 0 := by simpa using hz
          go_ret
          exact ⟨ret_slice (by rw [← H.out]; simp [trimN, hz']), rfl⟩

theorem Row.some_of {w : World} {k : IntKind} {B : Int} {a : Option Addr} {cap : Nat} {zs : List Int} (h : Row w k B a cap zs) {i : Nat} (hi : i < zs.length) : ∃ x, a = some x := by
  cases a with
  | none => have := h.nil_of.2; subst this; simp at hi
  | some x => exact ⟨x, rfl⟩
set_option maxHeartbeats 400000 in
theorem add_long (x y : Option Addr) (ca cb : Nat) (xs ys : List Int) (w : World) (ha : Row w .u32 4294967296 x ca xs) (hb : Row w .u32 4294967296 y cb ys) (hl : xs.length ≤ 1000000) (hlb : ys.length ≤ xs.length)
    {u v : Value} (huv : u = .slice x xs.length ca ∧ v = .slice y ys.length cb ∨ ys.length < xs.length ∧ v = .slice x xs.length ca ∧ u = .slice y ys.length cb) :
    Calls Try.prog 63 #[u, v] w fun e w' => ∃ ss, e = .returned (.slice (some ⟨w.heap.size, 0, none⟩) ss.length ss.length) ∧ Blk w' w.heap.size .u32 54 ss.length ss ∧ ss.length = xs.length + 1 ∧ Words 4294967296 ss ∧ val 4294967296 ss = val 4294967296 xs + val 4294967296 ys ∧ Below w.heap.size w w' := by
  have hmk := mk22 ((xs.length : Int) + 1) (by omega) (by omega) w
  rw [show ((xs.length : Int) + 1).toNat = xs.length + 1 from by omega] at hmk
  rcases huv with ⟨rfl, rfl⟩ | ⟨hh, rfl, rfl⟩
  · have h1 : ¬ (xs.length : Int) < (ys.length : Int) := by omega
    go_enter Try.func63, Try.ntmps63
    go_wp2
    go_loopw [6, 7, 8, 9, 23] (fun c u7 u8 u9 i wr => ∃ (k : Nat) (cc : Int) (ss : List Int), k ≤ xs.length ∧ i = .int .i64 k ∧ c = .int .u32 cc ∧ 0 ≤ cc ∧ cc ≤ 1 ∧ Blk wr w.heap.size .u32 54 (xs.length + 1) ss ∧ ss.length = xs.length + 1 ∧ Words 4294967296 ss ∧ Hid (val 4294967296 (ss.take k) + cc * 4294967296 ^ k = val 4294967296 (xs.take k) + val 4294967296 (ys.take k)) ∧ Below w.heap.size w wr) (fun _ _ _ _ i _ => xs.length - (intOf i).toNat)
    case atStart => exact ⟨0, 0, zeros (xs.length + 1), Nat.zero_le _, rfl, rfl, by omega, by omega, by have := Blk.new w .u32 54 (zeros (xs.length + 1)) (by rw [zeros_len]; unfold maxLen; omega); rwa [zeros_len] at this, zeros_len _, zeros_words (by decide) _, by simp [val, Hid], (Below.refl _ _).alloc (Nat.le_refl _) _⟩
    case round =>
      obtain ⟨k, cc, ss, hk, rfl, rfl, hc0, hc1, hblk, hsl, hsw, HV, hbel⟩ := hrel
      obtain ⟨p, hp, hp0, hp1⟩ := ha.words.get (by decide) k
      obtain ⟨q, hq, hq0, hq1⟩ := hb.words.get (by decide) k
      by_cases hlt : k < xs.length
      · obtain ⟨x, rfl⟩ := ha.some_of hlt
        have hca := (ha.next hbel).cell x rfl k hlt
        have hcs := hblk.cell k (by omega)
        have hfr := hblk.frozen k
        have HS : Hid (Hid (val 4294967296 ((ss.set k ((p + q + cc) % 4294967296)).take (k + 1)) + ((p + q + cc) / 4294967296) * 4294967296 ^ (k + 1) = val 4294967296 (xs.take (k + 1)) + val 4294967296 (ys.take (k + 1)))) := add_step (by decide) (by omega) hp hq HV.out
        generalize ss[k]?.getD 0 = old at hcs
        rw [hp] at hca
        have hkb : k < ys.length ∨ (¬ k < ys.length ∧ q = 0) := by
          by_cases h : k < ys.length
          · exact .inl h
          · exact .inr ⟨h, by rw [← hq, List.getElem?_eq_none (by omega)]; rfl⟩
        rcases hkb with hltb | ⟨hltb, rfl⟩
        · obtain ⟨y, rfl⟩ := hb.some_of hltb
          have hcb := (hb.next hbel).cell y rfl k hltb
          rw [hq] at hcb
          clear hp hq HV
          go_wp2_with (go_at_call 76; refine (add32 _ _ _ _ (by omega) (by omega) (by omega) (by omega) (by omega) (by omega)).mono ?_; rintro e w' ⟨rfl, rfl⟩)
          go_roundw
          case rel => exact ⟨k + 1, _, _, by omega, by go_num, rfl, by omega, by omega, hblk.set k _, by simpa using hsl, hsw.set k (by omega), HS, hbel.setCell (Nat.le_refl _) _⟩
          case measure => simp [intOf]; omega
        · clear hp hq HV
          rw [Int.add_zero] at HS
          go_wp2_with (go_at_call 76; refine (add32 _ _ _ _ (by omega) (by omega) (by omega) (by omega) (by omega) (by omega)).mono ?_; rintro e w' ⟨rfl, rfl⟩)
          go_roundw
          case rel => exact ⟨k + 1, _, _, by omega, by go_num, rfl, by omega, by omega, hblk.set k _, by simpa using hsl, hsw.set k (by omega), HS, hbel.setCell (Nat.le_refl _) _⟩
          case measure => simp [intOf]; omega
      · obtain rfl : k = xs.length := by omega
        clear hp hq
        have hcs := hblk.cell xs.length (by omega)
        have hfr := hblk.frozen xs.length
        generalize ss[xs.length]?.getD 0 = old at hcs
        go_wp2
        go_ret
        have HV' := HV.out
        rw [take_all (Nat.le_refl _), take_all hlb] at HV'
        have hsl' : (ss.set xs.length cc).length = xs.length + 1 := by simpa using hsl
        refine ⟨ss.set xs.length cc, by rw [hsl']; rfl, by rw [hsl']; exact hblk.set _ _, hsl', hsw.set _ (by omega), by rw [← HV', ← val_set_take _ _ _ _ (by omega), take_all (by omega)], hbel.setCell (Nat.le_refl _) _⟩
  · have h1 : (ys.length : Int) < (xs.length : Int) := by omega
    go_enter Try.func63, Try.ntmps63
    go_wp2
    go_loopw [6, 7, 8, 9, 23] (fun c u7 u8 u9 i wr => ∃ (k : Nat) (cc : Int) (ss : List Int), k ≤ xs.length ∧ i = .int .i64 k ∧ c = .int .u32 cc ∧ 0 ≤ cc ∧ cc ≤ 1 ∧ Blk wr w.heap.size .u32 54 (xs.length + 1) ss ∧ ss.length = xs.length + 1 ∧ Words 4294967296 ss ∧ Hid (val 4294967296 (ss.take k) + cc * 4294967296 ^ k = val 4294967296 (xs.take k) + val 4294967296 (ys.take k)) ∧ Below w.heap.size w wr) (fun _ _ _ _ i _ => xs.length - (intOf i).toNat)
    case atStart => exact ⟨0, 0, zeros (xs.length + 1), Nat.zero_le _, rfl, rfl, by omega, by omega, by have := Blk.new w .u32 54 (zeros (xs.length + 1)) (by rw [zeros_len]; unfold maxLen; omega); rwa [zeros_len] at this, zeros_len _, zeros_words (by decide) _, by simp [val, Hid], (Below.refl _ _).alloc (Nat.le_refl _) _⟩
    case round =>
      obtain ⟨k, cc, ss, hk, rfl, rfl, hc0, hc1, hblk, hsl, hsw, HV, hbel⟩ := hrel
      obtain ⟨p, hp, hp0, hp1⟩ := ha.words.get (by decide) k
      obtain ⟨q, hq, hq0, hq1⟩ := hb.words.get (by decide) k
      by_cases hlt : k < xs.length
      · obtain ⟨x, rfl⟩ := ha.some_of hlt
        have hca := (ha.next hbel).cell x rfl k hlt
        have hcs := hblk.cell k (by omega)
        have hfr := hblk.frozen k
        have HS : Hid (Hid (val 4294967296 ((ss.set k ((p + q + cc) % 4294967296)).take (k + 1)) + ((p + q + cc) / 4294967296) * 4294967296 ^ (k + 1) = val 4294967296 (xs.take (k + 1)) + val 4294967296 (ys.take (k + 1)))) := add_step (by decide) (by omega) hp hq HV.out
        generalize ss[k]?.getD 0 = old at hcs
        rw [hp] at hca
        have hkb : k < ys.length ∨ (¬ k < ys.length ∧ q = 0) := by
          by_cases h : k < ys.length
          · exact .inl h
          · exact .inr ⟨h, by rw [← hq, List.getElem?_eq_none (by omega)]; rfl⟩
        rcases hkb with hltb | ⟨hltb, rfl⟩
        · obtain ⟨y, rfl⟩ := hb.some_of hltb
          have hcb := (hb.next hbel).cell y rfl k hltb
          rw [hq] at hcb
          clear hp hq HV
          go_wp2_with (go_at_call 76; refine (add32 _ _ _ _ (by omega) (by omega) (by omega) (by omega) (by omega) (by omega)).mono ?_; rintro e w' ⟨rfl, rfl⟩)
          go_roundw
          case rel => exact ⟨k + 1, _, _, by omega, by go_num, rfl, by omega, by omega, hblk.set k _, by simpa using hsl, hsw.set k (by omega), HS, hbel.setCell (Nat.le_refl _) _⟩
          case measure => simp [intOf]; omega
        · clear hp hq HV
          rw [Int.add_zero] at HS
          go_wp2_with (go_at_call 76; refine (add32 _ _ _ _ (by omega) (by omega) (by omega) (by omega) (by omega) (by omega)).mono ?_; rintro e w' ⟨rfl, rfl⟩)
          go_roundw
          case rel => exact ⟨k + 1, _, _, by omega, by go_num, rfl, by omega, by omega, hblk.set k _, by simpa using hsl, hsw.set k (by omega), HS, hbel.setCell (Nat.le_refl _) _⟩
          case measure => simp [intOf]; omega
      · obtain rfl : k = xs.length := by omega
        clear hp hq
        have hcs := hblk.cell xs.length (by omega)
        have hfr := hblk.frozen xs.length
        generalize ss[xs.length]?.getD 0 = old at hcs
        go_wp2
        go_ret
        have HV' := HV.out
        rw [take_all (Nat.le_refl _), take_all hlb] at HV'
        have hsl' : (ss.set xs.length cc).length = xs.length + 1 := by simpa using hsl
        refine ⟨ss.set xs.length cc, by rw [hsl']; rfl, by rw [hsl']; exact hblk.set _ _, hsl', hsw.set _ (by omega), by rw [← HV', ← val_set_take _ _ _ _ (by omega), take_all (by omega)], hbel.setCell (Nat.le_refl _) _⟩
theorem add_any (x y : Option Addr) (ca cb : Nat) (xs ys : List Int) (w : World) (ha : Row w .u32 4294967296 x ca xs) (hb : Row w .u32 4294967296 y cb ys) (hl : xs.length ≤ 1000000) (hlb : ys.length ≤ 1000000) :
    Calls Try.prog 63 #[.slice x xs.length ca, .slice y ys.length cb] w fun e w' => ∃ ss, e = .returned (.slice (some ⟨w.heap.size, 0, none⟩) ss.length ss.length) ∧ Blk w' w.heap.size .u32 54 ss.length ss ∧ ss.length = max xs.length ys.length + 1 ∧ Words 4294967296 ss ∧ val 4294967296 ss = val 4294967296 xs + val 4294967296 ys ∧ Below w.heap.size w w' := by
  by_cases h : ys.length ≤ xs.length
  · rw [Nat.max_eq_left h]; exact add_long x y ca cb xs ys w ha hb hl h (.inl ⟨rfl, rfl⟩)
  · rw [Nat.max_eq_right (by omega), Int.add_comm (val _ xs)]; exact add_long y x cb ca ys xs w hb ha hlb (by omega) (.inr ⟨by omega, rfl, rfl⟩)
end Go.Proofs.Ythiiglhecajhbaa
