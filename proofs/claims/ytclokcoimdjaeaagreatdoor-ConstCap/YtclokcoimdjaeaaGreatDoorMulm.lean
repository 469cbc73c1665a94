/- Contracts of the functions on magnitudes: trim, compare, add, subtract, multiply, Clone, number. -/
import Derived.Test.YtclokcoimdjaeaaGreatDoorLeafm
namespace Go.Proofs.YtclokcoimdjaeaaGreatDoor
open Go.RowKit

theorem ret_slice {a : Option Addr} {c m n : Nat} (h : m = n) : Ending.returned (.slice a m c) = .returned (.slice a n c) := by rw [h]
theorem ret_int {k : IntKind} {a b : Int} (h : a = b) : Ending.returned (.int k a) = .returned (.int k b) := by rw [h]
set_option maxHeartbeats 400000 in
theorem trim_any (a : Option Addr) (cap : Nat) (zs : List Int) (w : World) (h : Row w .u32 4294967296 a cap zs) :
    Calls Tryz.prog 163 #[.slice a zs.length cap] w fun e w' => e = .returned (.slice a (trimmed zs).length cap) ∧ w' = w := by
  cases a with
  | none =>
    obtain ⟨rfl, rfl⟩ := h.nil_of
    go_enter Tryz.func163, Tryz.ntmps163
    go_wp2
    refine wp_loop_rounds 1 ?_
    rw [rounds_succ]
    go_wp2
    go_ret
    exact ⟨rfl, rfl⟩
  | some x =>
    obtain ⟨hle, hm, _, hcell, _⟩ := h
    replace hcell := hcell x rfl
    unfold maxLen at hm
    rw [trimmed_len]
    generalize hn : zs.length = n at *
    go_enter Tryz.func163, Tryz.ntmps163
    go_wp2
    go_loop [3] (fun t => ∃ k : Nat, k ≤ n ∧ t = .int .i64 k ∧ Hid (trimN zs k = trimN zs n)) (fun t => (intOf t).toNat)
    case atStart => exact ⟨n, Nat.le_refl _, rfl, rfl⟩
    case round =>
      obtain ⟨k, hk, rfl, H⟩ := hrel
      cases k with
      | zero =>
        go_wp2
        go_ret
        exact ⟨ret_slice (by rw [← H.out]; rfl), rfl⟩
      | succ k =>
        have hce := hcell k (by omega)
        go_wp2
        · have hz : (zs[k]?.getD 0 == 0) = true := by assumption
          have hz' : zs[k]?.getD 0 = 0 := by simpa using hz
          go_round
          case rel => exact ⟨k, by omega, rfl, by show trimN zs k = _; rw [← H.out]; simp [trimN, hz']⟩
          case measure => simp [intOf]
        · have hz : (zs[k]?.getD 0 == 0) = false := by assumption
          have hz' : zs[k]?.getD 0 ≠ 0 := by simpa using hz
          go_ret
          exact ⟨ret_slice (by rw [← H.out]; simp [trimN, hz']), rfl⟩

theorem Row.some_of {w : World} {k : IntKind} {B : Int} {a : Option Addr} {cap : Nat} {zs : List Int} (h : Row w k B a cap zs) {i : Nat} (hi : i < zs.length) : ∃ x, a = some x := by
  cases a with
  | none => have := h.nil_of.2; subst this; simp at hi
  | some x => exact ⟨x, rfl⟩
set_option maxHeartbeats 400000 in
theorem add_long (x y : Option Addr) (ca cb : Nat) (xs ys : List Int) (w : World) (ha : Row w .u32 4294967296 x ca xs) (hb : Row w .u32 4294967296 y cb ys) (hl : xs.length ≤ 1000000) (hlb : ys.length ≤ xs.length)
    {u v : Value} (huv : u = .slice x xs.length ca ∧ v = .slice y ys.length cb ∨ ys.length < xs.length ∧ v = .slice x xs.length ca ∧ u = .slice y ys.length cb) :
    Calls Tryz.prog 258 #[u, v] w fun e w' => ∃ ss, e = .returned (.slice (some ⟨w.heap.size, 0, none⟩) ss.length ss.length) ∧ Blk w' w.heap.size .u32 139 ss.length ss ∧ ss.length = xs.length + 1 ∧ Words 4294967296 ss ∧ val 4294967296 ss = val 4294967296 xs + val 4294967296 ys ∧ Below w.heap.size w w' := by
  have hmk := mk22 ((xs.length : Int) + 1) (by omega) (by omega) w
  rw [show ((xs.length : Int) + 1).toNat = xs.length + 1 from by omega] at hmk
  rcases huv with ⟨rfl, rfl⟩ | ⟨hh, rfl, rfl⟩
  · have h1 : ¬ (xs.length : Int) < (ys.length : Int) := by omega
    go_enter Tryz.func258, Tryz.ntmps258
    go_wp2
    go_loopw [6, 7, 8, 9, 23] (fun c u7 u8 u9 i wr => ∃ (k : Nat) (cc : Int) (ss : List Int), k ≤ xs.length ∧ i = .int .i64 k ∧ c = .int .u32 cc ∧ 0 ≤ cc ∧ cc ≤ 1 ∧ Blk wr w.heap.size .u32 139 (xs.length + 1) ss ∧ ss.length = xs.length + 1 ∧ Words 4294967296 ss ∧ Hid (val 4294967296 (ss.take k) + cc * 4294967296 ^ k = val 4294967296 (xs.take k) + val 4294967296 (ys.take k)) ∧ Below w.heap.size w wr) (fun _ _ _ _ i _ => xs.length - (intOf i).toNat)
    case atStart => exact ⟨0, 0, zeros (xs.length + 1), Nat.zero_le _, rfl, rfl, by omega, by omega, by have := Blk.new w .u32 139 (zeros (xs.length + 1)) (by rw [zeros_len]; unfold maxLen; omega); rwa [zeros_len] at this, zeros_len _, zeros_words (by decide) _, by simp [val, Hid], (Below.refl _ _).alloc (Nat.le_refl _) _⟩
    case round =>
      obtain ⟨k, cc, ss, hk, rfl, rfl, hc0, hc1, hblk, hsl, hsw, HV, hbel⟩ := hrel
      obtain ⟨p, hp, hp0, hp1⟩ := ha.words.get (by decide) k
      obtain ⟨q, hq, hq0, hq1⟩ := hb.words.get (by decide) k
      by_cases hlt : k < xs.length
      · obtain ⟨x, rfl⟩ := ha.some_of hlt
        have hca := (ha.next hbel).cell x rfl k hlt
        have hcs := hblk.cell k (by omega)
        have hfr := hblk.frozen k
        have HS : Hid (Hid (val 4294967296 ((ss.set k ((p + q + cc) % 4294967296)).take (k + 1)) + ((p + q + cc) / 4294967296) * 4294967296 ^ (k + 1) = val 4294967296 (xs.take (k + 1)) + val 4294967296 (ys.take (k + 1)))) := add_step (by decide) (by omega) hp hq HV.out
        generalize ss[k]?.getD 0 = old at hcs
        rw [hp] at hca
        have hkb : k < ys.length ∨ (¬ k < ys.length ∧ q = 0) := by
          by_cases h : k < ys.length
          · exact .inl h
          · exact .inr ⟨h, by rw [← hq, List.getElem?_eq_none (by omega)]; rfl⟩
        rcases hkb with hltb | ⟨hltb, rfl⟩
        · obtain ⟨y, rfl⟩ := hb.some_of hltb
          have hcb := (hb.next hbel).cell y rfl k hltb
          rw [hq] at hcb
          clear hp hq HV
          go_wp2_with (go_at_call 264; refine (add32 _ _ _ _ (by omega) (by omega) (by omega) (by omega) (by omega) (by omega)).mono ?_; rintro e w' ⟨rfl, rfl⟩)
          go_roundw
          case rel => exact ⟨k + 1, _, _, by omega, by go_num, rfl, by omega, by omega, hblk.set k _, by simpa using hsl, hsw.set k (by omega), HS, hbel.setCell (Nat.le_refl _) _⟩
          case measure => simp [intOf]; omega
        · clear hp hq HV
          rw [Int.add_zero] at HS
          go_wp2_with (go_at_call 264; refine (add32 _ _ _ _ (by omega) (by omega) (by omega) (by omega) (by omega) (by omega)).mono ?_; rintro e w' ⟨rfl, rfl⟩)
          go_roundw
          case rel => exact ⟨k + 1, _, _, by omega, by go_num, rfl, by omega, by omega, hblk.set k _, by simpa using hsl, hsw.set k (by omega), HS, hbel.setCell (Nat.le_refl _) _⟩
          case measure => simp [intOf]; omega
      · obtain rfl : k = xs.length := by omega
        clear hp hq
        have hcs := hblk.cell xs.length (by omega)
        have hfr := hblk.frozen xs.length
        generalize ss[xs.length]?.getD 0 = old at hcs
        go_wp2
        go_ret
        have HV' := HV.out
        rw [take_all (Nat.le_refl _), take_all hlb] at HV'
        have hsl' : (ss.set xs.length cc).length = xs.length + 1 := by simpa using hsl
        refine ⟨ss.set xs.length cc, by rw [hsl']; rfl, by rw [hsl']; exact hblk.set _ _, hsl', hsw.set _ (by omega), by rw [← HV', ← val_set_take _ _ _ _ (by omega), take_all (by omega)], hbel.setCell (Nat.le_refl _) _⟩
  · have h1 : (ys.length : Int) < (xs.length : Int) := by omega
    go_enter Tryz.func258, Tryz.ntmps258
    go_wp2
    go_loopw [6, 7, 8, 9, 23] (fun c u7 u8 u9 i wr => ∃ (k : Nat) (cc : Int) (ss : List Int), k ≤ xs.length ∧ i = .int .i64 k ∧ c = .int .u32 cc ∧ 0 ≤ cc ∧ cc ≤ 1 ∧ Blk wr w.heap.size .u32 139 (xs.length + 1) ss ∧ ss.length = xs.length + 1 ∧ Words 4294967296 ss ∧ Hid (val 4294967296 (ss.take k) + cc * 4294967296 ^ k = val 4294967296 (xs.take k) + val 4294967296 (ys.take k)) ∧ Below w.heap.size w wr) (fun _ _ _ _ i _ => xs.length - (intOf i).toNat)
    case atStart => exact ⟨0, 0, zeros (xs.length + 1), Nat.zero_le _, rfl, rfl, by omega, by omega, by have := Blk.new w .u32 139 (zeros (xs.length + 1)) (by rw [zeros_len]; unfold maxLen; omega); rwa [zeros_len] at this, zeros_len _, zeros_words (by decide) _, by simp [val, Hid], (Below.refl _ _).alloc (Nat.le_refl _) _⟩
    case round =>
      obtain ⟨k, cc, ss, hk, rfl, rfl, hc0, hc1, hblk, hsl, hsw, HV, hbel⟩ := hrel
      obtain ⟨p, hp, hp0, hp1⟩ := ha.words.get (by decide) k
      obtain ⟨q, hq, hq0, hq1⟩ := hb.words.get (by decide) k
      by_cases hlt : k < xs.length
      · obtain ⟨x, rfl⟩ := ha.some_of hlt
        have hca := (ha.next hbel).cell x rfl k hlt
        have hcs := hblk.cell k (by omega)
        have hfr := hblk.frozen k
        have HS : Hid (Hid (val 4294967296 ((ss.set k ((p + q + cc) % 4294967296)).take (k + 1)) + ((p + q + cc) / 4294967296) * 4294967296 ^ (k + 1) = val 4294967296 (xs.take (k + 1)) + val 4294967296 (ys.take (k + 1)))) := add_step (by decide) (by omega) hp hq HV.out
        generalize ss[k]?.getD 0 = old at hcs
        rw [hp] at hca
        have hkb : k < ys.length ∨ (¬ k < ys.length ∧ q = 0) := by
          by_cases h : k < ys.length
          · exact .inl h
          · exact .inr ⟨h, by rw [← hq, List.getElem?_eq_none (by omega)]; rfl⟩
        rcases hkb with hltb | ⟨hltb, rfl⟩
        · obtain ⟨y, rfl⟩ := hb.some_of hltb
          have hcb := (hb.next hbel).cell y rfl k hltb
          rw [hq] at hcb
          clear hp hq HV
          go_wp2_with (go_at_call 264; refine (add32 _ _ _ _ (by omega) (by omega) (by omega) (by omega) (by omega) (by omega)).mono ?_; rintro e w' ⟨rfl, rfl⟩)
          go_roundw
          case rel => exact ⟨k + 1, _, _, by omega, by go_num, rfl, by omega, by omega, hblk.set k _, by simpa using hsl, hsw.set k (by omega), HS, hbel.setCell (Nat.le_refl _) _⟩
          case measure => simp [intOf]; omega
        · clear hp hq HV
          rw [Int.add_zero] at HS
          go_wp2_with (go_at_call 264; refine (add32 _ _ _ _ (by omega) (by omega) (by omega) (by omega) (by omega) (by omega)).mono ?_; rintro e w' ⟨rfl, rfl⟩)
          go_roundw
          case rel => exact ⟨k + 1, _, _, by omega, by go_num, rfl, by omega, by omega, hblk.set k _, by simpa using hsl, hsw.set k (by omega), HS, hbel.setCell (Nat.le_refl _) _⟩
          case measure => simp [intOf]; omega
      · obtain rfl : k = xs.length := by omega
        clear hp hq
        have hcs := hblk.cell xs.length (by omega)
        have hfr := hblk.frozen xs.length
        generalize ss[xs.length]?.getD 0 = old at hcs
        go_wp2
        go_ret
        have HV' := HV.out
        rw [take_all (Nat.le_refl _), take_all hlb] at HV'
        have hsl' : (ss.set xs.length cc).length = xs.length + 1 := by simpa using hsl
        refine ⟨ss.set xs.length cc, by rw [hsl']; rfl, by rw [hsl']; exact hblk.set _ _, hsl', hsw.set _ (by omega), by rw [← HV', ← val_set_take _ _ _ _ (by omega), take_all (by omega)], hbel.setCell (Nat.le_refl _) _⟩
theorem add_any (x y : Option Addr) (ca cb : Nat) (xs ys : List Int) (w : World) (ha : Row w .u32 4294967296 x ca xs) (hb : Row w .u32 4294967296 y cb ys) (hl : xs.length ≤ 1000000) (hlb : ys.length ≤ 1000000) :
    Calls Tryz.prog 258 #[.slice x xs.length ca, .slice y ys.length cb] w fun e w' => ∃ ss, e = .returned (.slice (some ⟨w.heap.size, 0, none⟩) ss.length ss.length) ∧ Blk w' w.heap.size .u32 139 ss.length ss ∧ ss.length = max xs.length ys.length + 1 ∧ Words 4294967296 ss ∧ val 4294967296 ss = val 4294967296 xs + val 4294967296 ys ∧ Below w.heap.size w w' := by
  by_cases h : ys.length ≤ xs.length
  · rw [Nat.max_eq_left h]; exact add_long x y ca cb xs ys w ha hb hl h (.inl ⟨rfl, rfl⟩)
  · rw [Nat.max_eq_right (by omega), Int.add_comm (val _ xs)]; exact add_long y x cb ca ys xs w hb ha hlb (by omega) (.inr ⟨by omega, rfl, rfl⟩)
end Go.Proofs.YtclokcoimdjaeaaGreatDoor
namespace Go.Proofs.YtclokcoimdjaeaaGreatDoor
open Go.RowKit
theorem news_of_row {w : World} {k : IntKind} {B : Int} {x : Addr} {cap : Nat} {xs : List Int} (h : Row w k B (some x) cap xs) : ∀ j u, (xs.map (Value.int k))[j]? = some u → w.cell? (x.add j) = some u := by
  intro j u hj
  simp at hj
  obtain ⟨z, hz, rfl⟩ := hj
  have hlt : j < xs.length := by
    by_cases hh : j < xs.length
    · exact hh
    · rw [List.getElem?_eq_none (by omega)] at hz; cases hz
  rw [h.cell x rfl j hlt, hz]; rfl
theorem one_ints (k : IntKind) (xs : List Int) : ∀ u ∈ xs.map (Value.int k), u.oneCell' = true := by
  intro u hu
  obtain ⟨z, _, rfl⟩ := List.mem_map.1 hu
  rfl
set_option maxHeartbeats 400000 in
set_option maxRecDepth 100000 in
theorem clone_any (x : Option Addr) (cap : Nat) (xs : List Int) (w : World) (ha : Row w .u32 4294967296 x cap xs) (hl : xs.length ≤ 1000000) :
    Calls Tryz.prog 261 #[.slice x xs.length cap] w fun e w' => ∃ x' c', e = .returned (.slice x' xs.length c') ∧ Own w' w.heap.size .u32 139 4294967296 x' c' xs ∧ Below w.heap.size w w' := by
  obtain ⟨i0, hi, hz0, hz1, hz2⟩ := info_parts Tryz.info139
  cases x with
  | none =>
    have heq := fun w : World => Lib.run_eql_slice_nil (P := Tryz.prog) w 26 139 none 0 0 0 0 Tryz.underlying26
    obtain ⟨rfl, rfl⟩ := ha.nil_of
    go_enter Tryz.func261, Tryz.ntmps261
    go_wp2
    go_ret
    exact ⟨none, 0, rfl, Own.empty _ _ _ _ _, Below.refl _ _⟩
  | some x =>
    have heq := fun w : World => Lib.run_eql_slice_nil (P := Tryz.prog) w 26 139 (some x) xs.length cap 0 0 Tryz.underlying26
    by_cases hx : xs = []
    · subst hx
      simp only [List.length_nil] at heq
      go_enter Tryz.func261, Tryz.ntmps261
      go_wp2_with (at_builtin; refine wpList_append_own _ (by rfl) (.tmp 5) (.tmp 6) 26 (by rfl) w.heap.size 139 i0 (.int .u32 0) 1 4 Tryz.underlying26 hi hz0 hz1 hz2 (by rfl) (by omega) (.slice (some ⟨w.heap.size, 0, none⟩) 0 0) 0 [] (by rfl) ?h1 x 0 cap [] (by rfl) (by rfl) ?h2 ?h3 ?h4 ?h5 ?h6 ?_)
      case h1 => exact World.ownsRow_lit w #[] 0 (Nat.le_refl _) (by decide) (by rfl)
      case h2 => intro j u hj; simp at hj
      case h3 => intro u hu; cases hu
      case h4 => decide
      case h5 => decide
      case h6 => simp
      · intro v' w1 hown hgrow hx
        have hbel : Below w.heap.size w w1 := ((Below.refl _ w).alloc (Nat.le_refl _) _).grown hgrow (by simp) (by intro k hk; simp [Value.ownBlock] at hk; omega)
        obtain ⟨g, c', hv, hblk, hge⟩ : ∃ g c', v' = .slice (some ⟨g, 0, none⟩) 0 c' ∧ Blk w1 g .u32 139 c' [] ∧ w.heap.size ≤ g := by
          rcases hown.2 with ⟨h, _⟩ | ⟨g, c', _, hv, hge, _⟩
          · exact (hx h).elim
          · exact ⟨g, c', hv, Blk.of_owns (by rw [← hv]; exact hown), hge⟩
        clear hown hgrow hx
        subst hv
        go_wp2
        go_ret
        exact ⟨_, _, rfl, hblk.own (Words.nil _) hge, hbel⟩
    · have hpos : 0 < xs.length := List.length_pos_iff.2 hx
      have hnews := news_of_row (ha.next ((Below.refl _ w).alloc (Nat.le_refl _) (.cells #[] 139)))
      go_enter Tryz.func261, Tryz.ntmps261
      go_wp2_with (at_builtin; refine wpList_append_lies _ (by rfl) (.tmp 5) (.tmp 6) 26 (by rfl) w.heap.size 139 i0 (.int .u32 0) 1 4 Tryz.underlying26 hi hz0 hz1 hz2 (by rfl) (by omega) (.slice (some ⟨w.heap.size, 0, none⟩) 0 0) 0 [] (by rfl) ?h1 x xs.length cap (xs.map (Value.int .u32)) (by rfl) (by simp) hnews (one_ints _ _) hpos ?h3 ?h4 ?h5 (w.heap.size + 1) ?h6 ?_)
      case h1 => exact World.ownsRow_lit w #[] 0 (Nat.le_refl _) (by decide) (by rfl)
      case h3 => unfold maxLen; omega
      case h4 => omega
      case h5 => simp
      case h6 => simp
      · intro g c' w1 hown hgrow hat hlt
        have hblk : Blk w1 g .u32 139 c' xs := Blk.of_owns hown
        have hbel : Below w.heap.size w w1 := ((Below.refl _ w).alloc (Nat.le_refl _) _).grown hgrow (by simp) (by intro k hk; simp [Value.ownBlock] at hk; omega)
        have hge : w.heap.size ≤ g := by
          rcases hat with h | h
          · simp [Value.ownBlock] at h; omega
          · omega
        clear hown hgrow hat
        go_wp2
        go_ret
        exact ⟨_, _, rfl, hblk.own ha.words hge, hbel⟩
set_option maxHeartbeats 400000 in
theorem subtract_any (x y : Option Addr) (ca cb : Nat) (xs ys : List Int) (w : World) (ha : Row w .u32 4294967296 x ca xs) (hb : Row w .u32 4294967296 y cb ys) (hl : xs.length ≤ 1000000) (hlb : ys.length ≤ xs.length) (hv : val 4294967296 ys ≤ val 4294967296 xs) :
    Calls Tryz.prog 259 #[.slice x xs.length ca, .slice y ys.length cb] w fun e w' => ∃ ss, e = .returned (.slice (some ⟨w.heap.size, 0, none⟩) ss.length ss.length) ∧ Blk w' w.heap.size .u32 139 ss.length ss ∧ ss.length = xs.length ∧ Words 4294967296 ss ∧ val 4294967296 ss = val 4294967296 xs - val 4294967296 ys ∧ Below w.heap.size w w' := by
  have hmk := mk22 (xs.length : Int) (by omega) (by omega) w
  rw [show ((xs.length : Int)).toNat = xs.length from by omega] at hmk
  go_enter Tryz.func259, Tryz.ntmps259
  go_wp2
  go_loopw [6, 7, 8, 9, 15] (fun c u7 u8 u9 i wr => ∃ (k : Nat) (cc : Int) (ss : List Int), k ≤ xs.length ∧ i = .int .i64 k ∧ c = .int .u32 cc ∧ 0 ≤ cc ∧ cc ≤ 1 ∧ Blk wr w.heap.size .u32 139 xs.length ss ∧ ss.length = xs.length ∧ Words 4294967296 ss ∧ Hid (val 4294967296 (ss.take k) - cc * 4294967296 ^ k = val 4294967296 (xs.take k) - val 4294967296 (ys.take k)) ∧ Below w.heap.size w wr) (fun _ _ _ _ i _ => xs.length - (intOf i).toNat)
  case atStart => exact ⟨0, 0, zeros xs.length, Nat.zero_le _, rfl, rfl, by omega, by omega, by have := Blk.new w .u32 139 (zeros xs.length) (by rw [zeros_len]; unfold maxLen; omega); rwa [zeros_len] at this, zeros_len _, zeros_words (by decide) _, by simp [val, Hid], (Below.refl _ _).alloc (Nat.le_refl _) _⟩
  case round =>
    obtain ⟨k, cc, ss, hk, rfl, rfl, hc0, hc1, hblk, hsl, hsw, HV, hbel⟩ := hrel
    obtain ⟨p, hp, hp0, hp1⟩ := ha.words.get (by decide) k
    obtain ⟨q, hq, hq0, hq1⟩ := hb.words.get (by decide) k
    by_cases hlt : k < xs.length
    · obtain ⟨x, rfl⟩ := ha.some_of hlt
      have hca := (ha.next hbel).cell x rfl k hlt
      have hcs := hblk.cell k (by omega)
      have hfr := hblk.frozen k
      have hbo := bor_rng p q cc
      have HS : Hid (Hid (val 4294967296 ((ss.set k ((p - q - cc) % 4294967296)).take (k + 1)) - (bor p q cc) * 4294967296 ^ (k + 1) = val 4294967296 (xs.take (k + 1)) - val 4294967296 (ys.take (k + 1)))) := sub_step (by omega) hp hq (by unfold bor; split <;> omega) HV.out
      generalize ss[k]?.getD 0 = old at hcs
      rw [hp] at hca
      have hkb : k < ys.length ∨ (¬ k < ys.length ∧ q = 0) := by
        by_cases h : k < ys.length
        · exact .inl h
        · exact .inr ⟨h, by rw [← hq, List.getElem?_eq_none (by omega)]; rfl⟩
      rcases hkb with hltb | ⟨hltb, rfl⟩
      · obtain ⟨y, rfl⟩ := hb.some_of hltb
        have hcb := (hb.next hbel).cell y rfl k hltb
        rw [hq] at hcb
        clear hp hq HV
        go_wp2_with (go_at_call 278; refine (sub32 _ _ _ _ (by omega) (by omega) (by omega) (by omega) (by omega) (by omega)).mono ?_; rintro e w' ⟨rfl, rfl⟩)
        go_roundw
        case rel => exact ⟨k + 1, _, _, by omega, by go_num, rfl, by omega, by omega, hblk.set k _, by simpa using hsl, hsw.set k (by omega), HS, hbel.setCell (Nat.le_refl _) _⟩
        case measure => simp [intOf]; omega
      · clear hp hq HV
        rw [Int.sub_zero] at HS
        go_wp2_with (go_at_call 278; refine (sub32 _ _ _ _ (by omega) (by omega) (by omega) (by omega) (by omega) (by omega)).mono ?_; rintro e w' ⟨rfl, rfl⟩)
        go_roundw
        case rel => exact ⟨k + 1, _, _, by omega, by go_num, rfl, by omega, by omega, hblk.set k _, by simpa using hsl, hsw.set k (by omega), HS, hbel.setCell (Nat.le_refl _) _⟩
        case measure => simp [intOf]; omega
    · obtain rfl : k = xs.length := by omega
      clear hp hq
      go_wp2
      go_ret
      have HV' := HV.out
      rw [take_all (Nat.le_refl _), take_all hlb, take_all (by omega)] at HV'
      have hv1 := val_nonneg (by decide) hsw
      have hv2 := val_lt (by decide) hsw
      rw [hsl] at hv2
      have hcc : cc = 0 := by
        rcases (by omega : cc = 0 ∨ cc = 1) with h | h
        · exact h
        · subst h; omega
      subst hcc
      refine ⟨ss, by rw [hsl]; rfl, by rw [hsl]; exact hblk, hsl, hsw, by omega, hbel⟩
set_option maxHeartbeats 1000000 in
theorem compare_any (x y : Option Addr) (ca cb : Nat) (xs ys : List Int) (w : World) (ha : Row w .u32 4294967296 x ca xs) (hb : Row w .u32 4294967296 y cb ys) (_hl : xs.length ≤ 1000000) (hlb : ys.length ≤ 1000000) (nx : nrm xs) (ny : nrm ys) :
    Calls Tryz.prog 171 #[.slice x xs.length ca, .slice y ys.length cb] w fun e w' => e = .returned (.int .i64 (cmpI (val 4294967296 xs) (val 4294967296 ys))) ∧ Below w.heap.size w w' := by
  by_cases h : xs.length = ys.length
  case neg =>
    have h' : ((xs.length : Int) != (ys.length : Int)) = true := by rw [bne_iff_ne]; omega
    have hc : cmpI (xs.length : Int) (ys.length : Int) = cmpI (val 4294967296 xs) (val 4294967296 ys) := by
      by_cases hh : xs.length < ys.length
      · rw [cmpI_lt (by omega), cmpI_lt (cmp_len (by decide) ha.words hb.words ny hh)]
      · rw [cmpI_gt (by omega), cmpI_gt (cmp_len (by decide) hb.words ha.words nx (by omega))]
    rw [← hc]
    clear hc
    go_enter Tryz.func171, Tryz.ntmps171
    go_wp2_with (go_at_call 169; refine (cmp49 _ _ _).mono ?_; rintro e w' ⟨rfl, rfl⟩)
    go_ret
    exact ⟨rfl, Below.refl _ _⟩
  case pos =>
    rw [h]
    have H : Hid (xs.length = ys.length) := h
    have hbx := ha.words
    have hby := hb.words
    clear h _hl
    go_enter Tryz.func171, Tryz.ntmps171
    go_wp2
    go_loopw [5] (fun t wr => ∃ k : Nat, k ≤ ys.length ∧ t = .int .i64 (k - 1) ∧ Hid (val 4294967296 (xs.drop k) = val 4294967296 (ys.drop k)) ∧ Below w.heap.size w wr) (fun t _ => (intOf t + 1).toNat)
    case atStart => exact ⟨ys.length, Nat.le_refl _, rfl, by show val _ _ = val _ _; rw [List.drop_eq_nil_of_le (by have := H.out; omega), List.drop_eq_nil_of_le (by omega)], Below.refl _ _⟩
    case round =>
      obtain ⟨k, hk, rfl, HV, hbel⟩ := hrel
      cases k with
      | zero =>
        go_wp2
        go_ret
        refine ⟨ret_int ?_, hbel⟩
        have e := HV.out
        simp only [List.drop_zero] at e
        rw [cmpI_eq e]
      | succ k =>
        have hlx : k < xs.length := by have := H.out; omega
        obtain ⟨x, rfl⟩ := ha.some_of hlx
        obtain ⟨y, rfl⟩ := hb.some_of (i := k) (by omega)
        have hca := (ha.next hbel).cell x rfl k hlx
        have hcb := (hb.next hbel).cell y rfl k (by omega)
        obtain ⟨p, hp, hp0, hp1⟩ := ha.words.get (by decide) k
        obtain ⟨q, hq, hq0, hq1⟩ := hb.words.get (by decide) k
        rw [hp] at hca
        rw [hq] at hcb
        have HP : Hid (xs[k]?.getD 0 = p) := hp
        have HQ : Hid (ys[k]?.getD 0 = q) := hq
        clear hp hq
        have hk0 : (0 : Int) ≤ (k : Int) := by omega
        have hk1 : (k : Int) < (ys.length : Int) := by omega
        clear hlx
        by_cases hpq : p = q
        · have hne : (p != q) = false := by simp [hpq]
          have HPQ : Hid (p = q) := hpq
          clear hpq
          go_wp2
          go_quiet (fail)
          go_wp2
          go_roundw
          case rel => exact ⟨k, by omega, rfl, by show val _ _ = val _ _; rw [val_drop _ xs, val_drop _ ys, HV.out, HP.out, HQ.out, HPQ.out], below_drewN hbel _⟩
          case measure => simp [intOf]
        · have hne : (p != q) = true := by simp [hpq]
          have HPQ : Hid (¬ p = q) := hpq
          clear hpq
          have HC : Hid (cmpI p q = cmpI (val 4294967296 xs) (val 4294967296 ys)) := by
            have e1 := HP.out
            have e2 := HQ.out
            have e3 := HPQ.out
            have e4 := H.out
            show cmpI p q = _
            by_cases hh : p < q
            · rw [cmpI_lt hh, cmpI_lt (cmp_top (by decide) hbx hby e4 (i := k) (by omega) HV.out (by omega))]
            · rw [cmpI_gt (by omega), cmpI_gt (cmp_top (by decide) hby hbx e4.symm (i := k) (by omega) HV.out.symm (by omega))]
          go_wp2
          go_quiet (fail)
          have hbel2 : Below w.heap.size w (wr.drewN nq) := below_drewN hbel nq
          generalize wr.drewN nq = w2 at *
          have hca2 := (ha.next hbel2).cell x rfl k (by have := H.out; omega)
          have hcb2 := (hb.next hbel2).cell y rfl k (by omega)
          rw [HP.out] at hca2
          rw [HQ.out] at hcb2
          clear hca hcb
          go_wp2
          go_quiet ((go_at_call 230; exact Calls.quiet_of_same (cmp71 _ _ _)))
          go_wp2
          go_ret
          exact ⟨ret_int HC.out, below_drewN hbel2 _⟩
end Go.Proofs.YtclokcoimdjaeaaGreatDoor
namespace Go.Proofs.YtclokcoimdjaeaaGreatDoor
open Go.RowKit
theorem mul_word {p s : Int} (hp0 : 0 ≤ p) (hp1 : p < 4294967296) (hs0 : 0 ≤ s) (hs1 : s < 4294967296) : 0 ≤ p * s ∧ p * s ≤ 18446744065119617025 := by
  refine ⟨Int.mul_nonneg hp0 hs0, ?_⟩
  have h1 : p * s ≤ 4294967295 * s := Int.mul_le_mul_of_nonneg_right (by omega) hs0
  omega
set_option maxHeartbeats 400000 in
theorem addScaled_any (w0 : World) (g o capT capB : Nat) (cap : Nat) (zs ys : List Int) (y : Option Addr) (s : Int) (w : World) (hb : Row w0 .u32 4294967296 y capB ys) (hw : Below w0.heap.size w0 w) (hg : w0.heap.size ≤ g)
    (hz : Blk w g .u32 139 cap zs) (hzw : Words 4294967296 zs) (ho : o + ys.length ≤ zs.length) (hl : zs.length ≤ 4000000) (hs0 : 0 ≤ s) (hs1 : s < 4294967296) :
    Calls Tryz.prog 260 #[.slice (some ⟨g, o, none⟩) ys.length capT, .slice y ys.length capB, .int .u32 s] w fun e w' => ∃ c zs', e = .returned (.int .u32 c) ∧ 0 ≤ c ∧ c < 4294967296 ∧ Blk w' g .u32 139 cap zs' ∧ zs'.length = zs.length ∧ Words 4294967296 zs' ∧ val 4294967296 (zs'.take (o + ys.length)) + c * 4294967296 ^ (o + ys.length) = val 4294967296 (zs.take (o + ys.length)) + s * val 4294967296 ys * 4294967296 ^ o ∧ Below w0.heap.size w0 w' := by
  go_enter Tryz.func260, Tryz.ntmps260
  go_wp2
  go_loopw [7, 8, 9, 10, 13] (fun c u8 u9 u10 i wr => ∃ (k : Nat) (cc : Int) (ss : List Int), k ≤ ys.length ∧ i = .int .i64 k ∧ c = .int .u64 cc ∧ 0 ≤ cc ∧ cc < 4294967296 ∧ Blk wr g .u32 139 cap ss ∧ ss.length = zs.length ∧ Words 4294967296 ss ∧ Hid (∀ i, o + k ≤ i → ss[i]?.getD 0 = zs[i]?.getD 0) ∧ Hid (val 4294967296 (ss.take (o + k)) + cc * 4294967296 ^ (o + k) = val 4294967296 (zs.take (o + k)) + s * val 4294967296 (ys.take k) * 4294967296 ^ o) ∧ Below w0.heap.size w0 wr) (fun _ _ _ _ i _ => ys.length - (intOf i).toNat)
  case atStart => exact ⟨0, 0, zs, Nat.zero_le _, rfl, rfl, by omega, by omega, hz, rfl, hzw, fun _ _ => rfl, by simp [val, Hid], hw⟩
  case round =>
    obtain ⟨k, cc, ss, hk, rfl, rfl, hc0, hc1, hblk, hsl, hsw, HE, HV, hbel⟩ := hrel
    by_cases hlt : k < ys.length
    · obtain ⟨y, rfl⟩ := hb.some_of hlt
      obtain ⟨p, hp, hp0, hp1⟩ := hb.words.get (by decide) k
      obtain ⟨q, hq, hq0, hq1⟩ := hsw.get (by decide) (o + k)
      have hca := (hb.next hbel).cell y rfl k hlt
      have hcs := hblk.cell (o + k) (by omega)
      have hfr := hblk.frozen (o + k)
      have hzq : zs[o + k]?.getD 0 = q := by rw [← HE.out (o + k) (Nat.le_refl _)]; exact hq
      have HS : Hid (Hid (val 4294967296 ((ss.set (o + k) ((p * s + q + cc) % 4294967296)).take (o + (k + 1))) + ((p * s + q + cc) / 4294967296) * 4294967296 ^ (o + (k + 1)) = val 4294967296 (zs.take (o + (k + 1))) + s * val 4294967296 (ys.take (k + 1)) * 4294967296 ^ o)) := scale_step (by omega) hp hzq HV.out
      have hm := mul_word hp0 hp1 hs0 hs1
      rw [hp] at hca
      rw [hq] at hcs
      clear hp hq HV hb hzq
      go_wp2
      go_roundw
      case rel => exact ⟨k + 1, _, _, by omega, by go_num, rfl, by omega, by omega, hblk.set (o + k) _, by simpa using hsl, hsw.set (o + k) (by omega), fun i hi => by rw [List.getElem?_set_ne (by omega)]; exact HE.out i (by omega), HS, hbel.setCell hg _⟩
      case measure => simp [intOf]; omega
    · obtain rfl : k = ys.length := by omega
      go_wp2
      go_ret
      have HV' := HV.out
      rw [take_all (Nat.le_refl _)] at HV'
      exact ⟨cc, ss, rfl, hc0, hc1, hblk, hsl, hsw, HV', hbel⟩
set_option maxHeartbeats 400000 in
theorem multiply_any (x y : Option Addr) (ca cb : Nat) (xs ys : List Int) (w : World) (ha : Row w .u32 4294967296 x ca xs) (hb : Row w .u32 4294967296 y cb ys) (hl : xs.length ≤ 1000000) (hlb : ys.length ≤ 1000000) :
    Calls Tryz.prog 224 #[.slice x xs.length ca, .slice y ys.length cb] w fun e w' => ∃ ss, e = .returned (.slice (some ⟨w.heap.size, 0, none⟩) ss.length ss.length) ∧ Blk w' w.heap.size .u32 139 ss.length ss ∧ ss.length = xs.length + ys.length ∧ Words 4294967296 ss ∧ val 4294967296 ss = val 4294967296 xs * val 4294967296 ys ∧ Below w.heap.size w w' := by
  have hmk := mk22 ((xs.length : Int) + (ys.length : Int)) (by omega) (by omega) w
  rw [show ((xs.length : Int) + (ys.length : Int)).toNat = xs.length + ys.length from by omega] at hmk
  go_enter Tryz.func224, Tryz.ntmps224
  go_wp2
  go_loopw [6, 7, 16] (fun u6 u7 i wr => ∃ (k : Nat) (ss : List Int), k ≤ xs.length ∧ i = .int .i64 k ∧ Blk wr w.heap.size .u32 139 (xs.length + ys.length) ss ∧ ss.length = xs.length + ys.length ∧ Words 4294967296 ss ∧ Hid (val 4294967296 (ss.take (k + ys.length)) = val 4294967296 (xs.take k) * val 4294967296 ys) ∧ Below w.heap.size w wr) (fun _ _ i _ => xs.length - (intOf i).toNat)
  case atStart => exact ⟨0, zeros (xs.length + ys.length), Nat.zero_le _, rfl, by have := Blk.new w .u32 139 (zeros (xs.length + ys.length)) (by rw [zeros_len]; unfold maxLen; omega); rwa [zeros_len] at this, zeros_len _, zeros_words (by decide) _, by show val _ (List.take _ (List.replicate _ _)) = _; rw [List.take_replicate, val_zeros]; simp [val], (Below.refl _ _).alloc (Nat.le_refl _) _⟩
  case round =>
    obtain ⟨k, ss, hk, rfl, hblk, hsl, hsw, HV, hbel⟩ := hrel
    by_cases hlt : k < xs.length
    · obtain ⟨x, rfl⟩ := ha.some_of hlt
      obtain ⟨p, hp, hp0, hp1⟩ := ha.words.get (by decide) k
      have hca := (ha.next hbel).cell x rfl k hlt
      rw [hp] at hca
      have HP : Hid (xs[k]?.getD 0 = p) := hp
      clear hp
      go_wp2_with fail
      refine (addScaled_any w w.heap.size k _ cb _ ss ys y p wr hb hbel (Nat.le_refl _) hblk hsw (by omega) (by omega) hp0 hp1).mono ?_
      rintro e w1 ⟨c, ss1, rfl, hc0, hc1, hblk1, hsl1, hsw1, hv1, hbel1⟩
      have HS : Hid (Hid (val 4294967296 ((ss1.set (k + ys.length) c).take (k + 1 + ys.length)) = val 4294967296 (xs.take (k + 1)) * val 4294967296 ys)) := mul_step (by omega) HP.out HV.out hv1
      have hcs := hblk1.cell (k + ys.length) (by omega)
      have hfr := hblk1.frozen (k + ys.length)
      generalize ss1[k + ys.length]?.getD 0 = old at hcs
      clear hv1 HV hblk hsw hbel hca
      go_wp2
      go_roundw
      case rel => exact ⟨k + 1, _, by omega, by go_num, hblk1.set (k + ys.length) _, by simp; omega, hsw1.set (k + ys.length) (by omega), HS, hbel1.setCell (Nat.le_refl _) _⟩
      case measure => simp [intOf]; omega
    · obtain rfl : k = xs.length := by omega
      go_wp2
      go_ret
      have HV' := HV.out
      rw [take_all (Nat.le_refl _), take_all (by omega)] at HV'
      exact ⟨ss, by rw [hsl]; rfl, by rw [hsl]; exact hblk, hsl, hsw, HV', hbel⟩
theorem Blk.trim {w : World} {g : Nat} {k : IntKind} {T : TypeId} {cap : Nat} {zs : List Int} (h : Blk w g k T cap zs) : Blk w g k T cap (trimmed zs) := h.take _
theorem Row.trim {w : World} {k : IntKind} {B : Int} {a : Option Addr} {cap : Nat} {zs : List Int} (h : Row w k B a cap zs) : Row w k B a cap (trimmed zs) := h.take _ (trimN_le _ _)
theorem Own.trim {w : World} {base : Nat} {k : IntKind} {T : TypeId} {B : Int} {a : Option Addr} {cap : Nat} {zs : List Int} (h : Own w base k T B a cap zs) : Own w base k T B a cap (trimmed zs) := h.take _
/-- A value of type api.Big that reads as the number z, in normal form, in at most n words, in memory of the call's own. -/
def Out (w : World) (base : Nat) (v : Value) (z : Int) (n : Nat) : Prop :=
  ∃ (neg : Bool) (a : Option Addr) (cap : Nat) (ds : List Int), v = .agg #[.bool neg, .slice a ds.length cap] ∧ Own w base .u32 139 4294967296 a cap ds ∧ Norm neg ds ∧ num 4294967296 neg ds = z ∧ ds.length ≤ n
theorem Out.next {w w' : World} {base : Nat} {v : Value} {z : Int} {n : Nat} (h : Out w base v z n) (hb : Below w.heap.size w w') : Out w' base v z n := by
  obtain ⟨neg, a, cap, ds, hv, hr, r⟩ := h
  exact ⟨neg, a, cap, ds, hv, hr.next hb, r⟩
set_option maxHeartbeats 400000 in
theorem number_any (neg : Bool) (x : Option Addr) (cap : Nat) (xs : List Int) (base : Nat) (w : World) (ha : Own w base .u32 139 4294967296 x cap xs) (_hl : xs.length ≤ 4000000) :
    Calls Tryz.prog 90 #[.bool neg, .slice x xs.length cap] w fun e w' => ∃ v, e = .returned v ∧ Out w' base v (num 4294967296 neg xs) xs.length ∧ Below w.heap.size w w' := by
  have hbel : Below w.heap.size w (w.alloc (.cells #[.bool false, .slice none 0 0] 28)) := (Below.refl _ _).alloc (Nat.le_refl _) _
  have hlen := trimmed_le xs
  by_cases h0 : trimmed xs = []
  · have h1 : ((trimmed xs).length : Int) == 0 := by simp [h0]
    have HE : Hid (trimmed xs = []) := h0
    have hz : (trimmed xs).length = 0 := by simp [h0]
    go_enter Tryz.func90, Tryz.ntmps90
    go_wp2_with (go_at_call 163; refine (trim_any _ _ _ _ (ha.row.next hbel)).mono ?_; rintro e w' ⟨rfl, rfl⟩)
    refine bodyPost_ret (v := .agg #[.bool false, .slice none 0 0]) (by simp [results, Tryz.results90, go_sem]) rfl ⟨_, rfl, ?_, hbel⟩
    have hv := trimmed_val 4294967296 xs
    rw [HE.out] at hv
    exact ⟨false, none, 0, [], rfl, Own.empty _ _ _ _ _, ⟨trivial, fun h => by cases h⟩, by simp only [num, ← hv]; simp [val], Nat.zero_le _⟩
  · have hz : 0 < (trimmed xs).length := List.length_pos_iff.2 h0
    have h1 : (((trimmed xs).length : Int) == 0) = false := by simp; omega
    have HE : Hid (trimmed xs ≠ []) := h0
    clear h0
    have hO : Out (w.alloc (.cells #[.bool neg, .slice x (trimmed xs).length cap] 28)) base (.agg #[.bool neg, .slice x (trimmed xs).length cap]) (num 4294967296 neg xs) xs.length :=
      ⟨neg, x, cap, trimmed xs, rfl, ha.trim.next ((Below.refl _ _).alloc (Nat.le_refl _) _), ⟨trimmed_nrm xs, fun _ => HE.out⟩, by simp only [num, trimmed_val], trimmed_le xs⟩
    go_enter Tryz.func90, Tryz.ntmps90
    go_wp2_with (go_at_call 163; refine (trim_any _ _ _ _ (ha.row.next hbel)).mono ?_; rintro e w' ⟨rfl, rfl⟩)
    exact bodyPost_ret (v := .agg #[.bool neg, .slice x (trimmed xs).length cap]) (by simp [results, Tryz.results90, go_sem]) rfl ⟨_, rfl, hO, (Below.refl _ _).alloc (Nat.le_refl _) _⟩
end Go.Proofs.YtclokcoimdjaeaaGreatDoor
