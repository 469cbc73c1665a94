/- constants: the second road counts bits. -/
import Derived.Test.YtclokcoimdjaeaaGreatDoorGimm
import Derived.Test.YtclokcoimdjaeaaGreatDoorQrm
import Derived.Deep.CutRange
import Derived.Deep.RegionWith
namespace Go.Proofs.YtclokcoimdjaeaaGreatDoor
set_option linter.unusedVariables false
open Go.RowKit
theorem bit_of_val {zs : List Int} (hw : Words 65536 zs) (i : Nat) : val 65536 zs / 2 ^ i % 2 = zs[i / 16]?.getD 0 / 2 ^ (i % 16) % 2 := by
  have hk : val 65536 zs = val 65536 (zs.take (i / 16)) + 65536 ^ (i / 16) * val 65536 (zs.drop (i / 16)) := by
    by_cases h : i / 16 ≤ zs.length
    · exact val_split _ _ _ h
    · rw [List.take_of_length_le (by omega), List.drop_eq_nil_of_le (by omega)]; simp [val]
  have h1 := val_nonneg (B := 65536) (by decide) (hw.take (i / 16))
  have h2 : val 65536 (zs.take (i / 16)) < 65536 ^ (i / 16) := by
    have e := val_lt (B := 65536) (by decide) (hw.take (i / 16))
    have m := pow_mono (B := 65536) (by decide) (m := (zs.take (i / 16)).length) (n := i / 16) (by rw [List.length_take]; omega)
    omega
  have hp : (65536 : Int) ^ (i / 16) = 2 ^ (16 * (i / 16)) := by rw [Int.pow_mul]; rfl
  have hd : val 65536 zs / 65536 ^ (i / 16) = val 65536 (zs.drop (i / 16)) := by
    rw [hk, Int.add_mul_ediv_left _ _ (by have := pow_pos' (B := 65536) (by decide) (i / 16); omega), Int.ediv_eq_zero_of_lt h1 h2]; omega
  have hi : (2 : Int) ^ i = 65536 ^ (i / 16) * 2 ^ (i % 16) := by rw [hp, ← Int.pow_add]; congr 1; omega
  rw [hi, ← Int.ediv_ediv_of_nonneg (Int.le_of_lt (pow_pos' (by decide) _)), hd, val_drop]
  generalize zs[i / 16]?.getD 0 = d
  generalize val 65536 (zs.drop (i / 16 + 1)) = v
  have hr : i % 16 < 16 := by omega
  have he : (65536 : Int) = 2 ^ (i % 16) * (2 * 2 ^ (15 - i % 16)) := by
    have : (65536 : Int) = 2 ^ (i % 16 + (1 + (15 - i % 16))) := by rw [show i % 16 + (1 + (15 - i % 16)) = 16 from by omega]; rfl
    rw [this, Int.pow_add, Int.pow_add, Int.pow_one]
  have hpos := pow_pos' (B := 2) (by decide) (i % 16)
  rw [he, Int.mul_assoc, Int.add_mul_ediv_left _ _ (by omega), Int.mul_assoc]
  generalize 2 ^ (15 - i % 16) * v = u
  omega
set_option maxHeartbeats 1000000 in
theorem bit_any (x : Option Addr) (ca : Nat) (xs : List Int) (i : Nat) (w : World) (ha : Row w .i64 65536 x ca xs) (hl : xs.length ≤ 1000000) (hi : i ≤ 100000000) :
    Calls Tryz.prog 153 #[.slice x xs.length ca, .int .i64 i] w fun e w' => e = .returned (.int .i64 (val 65536 xs / 2 ^ i % 2)) ∧ w' = w := by
  have hb := bit_of_val ha.words i
  rw [hb]
  clear hb
  by_cases h : i / 16 < xs.length
  · obtain ⟨x, rfl⟩ := ha.some_of h
    obtain ⟨p, hp, hp0, hp1⟩ := ha.words.get (by decide) (i / 16)
    have hce := ha.cell x rfl (i / 16) h
    rw [hp] at hce ⊢
    clear hp
    have e1 : (i : Int).tdiv 16 = ((i / 16 : Nat) : Int) := by rw [Int.tdiv_eq_ediv_of_nonneg (by omega)]; omega
    have e2 : (i : Int).tmod 16 = ((i % 16 : Nat) : Int) := by rw [Int.tmod_eq_emod_of_nonneg (by omega)]; omega
    have e3 : ¬ ((i / 16 : Nat) : Int) ≥ (xs.length : Int) := by omega
    go_enter Tryz.func153, Tryz.ntmps153
    go_wp2
    go_ret
    exact ⟨ret_int (Int.tmod_eq_emod_of_nonneg (Int.ediv_nonneg hp0 (Int.le_of_lt (pow_pos' (by decide) _)))), rfl⟩
  · have e1 : (i : Int).tdiv 16 = ((i / 16 : Nat) : Int) := by rw [Int.tdiv_eq_ediv_of_nonneg (by omega)]; omega
    have e3 : ((i / 16 : Nat) : Int) ≥ (xs.length : Int) := by omega
    have h0 : xs[i / 16]?.getD 0 = 0 := Row.at_out h
    rw [h0]
    have e4 : (0 : Int) / 2 ^ (i % 16) % 2 = 0 := by simp
    rw [e4]
    clear e4 h0 e1
    have e5 : (xs.length : Int) ≤ (i : Int) / 16 := by omega
    go_enter Tryz.func153, Tryz.ntmps153
    go_wp2
    go_ret
    exact ⟨rfl, rfl⟩
theorem bits_down {v : Int} {k : Nat} (h0 : 0 ≤ v) (h : v < 2 ^ (k + 1)) (hb : v / 2 ^ k % 2 = 0) : v < 2 ^ k := by
  have hp := pow_pos' (B := 2) (by decide) k
  have h1 : v / 2 ^ k < 2 := Int.ediv_lt_of_lt_mul hp (by rw [Int.pow_succ] at h; omega)
  have h2 : 0 ≤ v / 2 ^ k := Int.ediv_nonneg h0 (Int.le_of_lt hp)
  have h3 : v / 2 ^ k = 0 := by omega
  have h4 := Int.lt_ediv_add_one_mul_self v hp
  rw [h3] at h4
  omega
theorem bits_top {v : Int} {k : Nat} (h0 : 0 ≤ v) (hb : ¬ v / 2 ^ k % 2 = 0) : 2 ^ k ≤ v := by
  have hp := pow_pos' (B := 2) (by decide) k
  by_cases h : 2 ^ k ≤ v
  · exact h
  · rw [Int.ediv_eq_zero_of_lt h0 (by omega)] at hb
    exact absurd rfl hb
set_option maxHeartbeats 1000000 in
theorem rBits_any (na : Bool) (x : Option Addr) (ca : Nat) (xs : List Int) (w : World) (ha : Row w .i64 65536 x ca xs) (hl : xs.length ≤ 1000000) :
    Calls Tryz.prog 82 #[.agg #[.bool na, .slice x xs.length ca]] w fun e w' => ∃ L : Nat, e = .returned (.int .i64 L) ∧ HasBits (val 65536 xs) L ∧ Below w.heap.size w w' := by
  have hv := val_nonneg (B := 65536) (by decide) ha.words
  have hv2 := val_lt (B := 65536) (by decide) ha.words
  have hp : (65536 : Int) ^ xs.length = 2 ^ (16 * xs.length) := by rw [Int.pow_mul]; rfl
  rw [hp] at hv2
  replace hv : Hid _ := hv
  replace hv2 : Hid _ := hv2
  clear hp
  have hB : Below w.heap.size w (w.alloc (.cells #[.bool na, .slice x xs.length ca] 38)) := (Below.refl _ _).alloc (Nat.le_refl _) _
  have haB := ha.next hB
  go_enter Tryz.func82, Tryz.ntmps82
  go_wp2
  go_loop [3] (fun t => ∃ k : Nat, k ≤ 16 * xs.length ∧ t = .int .i64 k ∧ Hid (val 65536 xs < 2 ^ k)) (fun t => (intOf t).toNat)
  case atStart => exact ⟨16 * xs.length, Nat.le_refl _, by simp, hv2⟩
  case round =>
    obtain ⟨k, hk, rfl, H⟩ := hrel
    cases k with
    | zero =>
      go_wp2
      go_ret
      exact ⟨0, rfl, ⟨H.out, .inl rfl⟩, hB⟩
    | succ k =>
      have hbit := bit_any x ca xs k _ haB (by omega) (by omega)
      by_cases hz : val 65536 xs / 2 ^ k % 2 = 0
      · rw [hz] at hbit
        have HD := bits_down hv.out H.out hz
        replace HD : Hid _ := HD
        replace hz : Hid _ := hz
        go_wp2_with (go_at_call 153; refine Calls.mono hbit ?_; rintro e w' ⟨rfl, rfl⟩)
        go_round
        case rel => exact ⟨k, by omega, by go_num, HD⟩
        case measure => simp [intOf]
      · have HT := bits_top hv.out hz
        have e1 : val 65536 xs / 2 ^ k % 2 = 1 := by omega
        rw [e1] at hbit
        replace HT : Hid _ := HT
        replace hz : Hid _ := hz
        replace e1 : Hid _ := e1
        go_wp2_with (go_at_call 153; refine Calls.mono hbit ?_; rintro e w' ⟨rfl, rfl⟩)
        go_ret
        exact ⟨k + 1, by go_num, ⟨H.out, .inr HT.out⟩, hB⟩
theorem rBits_num {w : World} {u : Value} {y : Int} {m : Nat} (hu : Rint w u y m) (hm : m ≤ 1000) :
    Calls Tryz.prog 82 #[u] w fun e w' => ∃ L : Nat, e = .returned (.int .i64 L) ∧ HasBits (y.natAbs : Int) L ∧ Below w.heap.size w w' := by
  obtain ⟨na, x, ca, xs, rfl, ha, _, rfl, hl⟩ := hu
  have hva := val_abs (B := 65536) (n := na) (by decide) ha.words
  rw [← hva]
  exact rBits_any na x ca xs w ha (by omega)
end Go.Proofs.YtclokcoimdjaeaaGreatDoor
namespace Go.Proofs.YtclokcoimdjaeaaGreatDoor
open Go.RowKit Go.Shelf Go.Lib
attribute [local go_sem ↓] Go.wp_at_zero Go.wp_at_succ
theorem bytes_empty {s : ByteArray} (h : s.size = 0) : s = ⟨#[]⟩ := by
  cases s with
  | mk d =>
    have : d = #[] := Array.eq_empty_of_size_eq_zero h
    rw [this]
/-- A constant's box whose kind is still 0: no digits of the second road lie in it. -/
def ZBox (w : World) (b : Nat) : Prop := ∃ (b0 : Bool) (s0 : ByteArray) (x1 : Bool) (y1 : Option Addr) (z1 u1 : Nat) (x2 : Bool) (y2 : Option Addr) (z2 u2 T : Nat), w.heap[b]? = some (.cells #[.int .i64 0, .bool b0, .string s0, .bool x1, .slice y1 z1 u1, .bool x2, .slice y2 z2 u2] T (0, 0))
theorem ZBox.apart {w : World} {b : Nat} (h : ZBox w b) {B : Int} {x : Addr} {cap : Nat} {ds : List Int} (hr : Row w .i64 B (some x) cap ds) (hn : nrm ds) (hne : ds ≠ []) : x.block ≠ b := by
  obtain ⟨b0, s0, x1, y1, z1, u1, x2, y2, z2, u2, T, h⟩ := h
  intro e
  have key : ∀ i, i < ds.length → (x.add i).off = 0 ∧ ds[i]?.getD 0 = 0 := by
    intro i hi
    have h1 := hr.cell x rfl i hi
    unfold World.cell? at h1
    rw [add_block, e, h] at h1
    simp only at h1
    split at h1
    · cases h1
    · generalize (x.add i).off = o at h1 ⊢
      match o, h1 with
      | 0, h1 => simp at h1; exact ⟨rfl, h1.symm⟩
      | 1, h1 => simp at h1
      | 2, h1 => simp at h1
      | 3, h1 => simp at h1
      | 4, h1 => simp at h1
      | 5, h1 => simp at h1
      | 6, h1 => simp at h1
      | o + 7, h1 => simp at h1
  match ds, hn, hne, key with
  | [d], hn, _, key => exact hn.1 rfl (by simpa using (key 0 (by simp)).2)
  | d :: d' :: l, _, _, key =>
    have h0 := (key 0 (by simp)).1
    have h1 := (key 1 (by simp)).1
    simp [Addr.add] at h0 h1
    try omega
theorem Rint.put7 {w : World} {b : Nat} {v0 v1 v2 v3 v4 v5 v6 v : Value} {z : Int} {m : Nat} (h : ZBox w b) (hv : Rint w v z m) : Rint (put7 w b v0 v1 v2 v3 v4 v5 v6) v z m := by
  obtain ⟨neg, a, cap, ds, rfl, hr, hn, hz, hl⟩ := hv
  refine ⟨neg, a, cap, ds, rfl, ⟨hr.le, hr.max, hr.nil, fun y hy i hi => ?_, hr.words⟩, hn, hz, hl⟩
  subst hy
  have hne := h.apart hr hn.1 (by intro e; subst e; simp at hi)
  rw [World.cell?_of_block (w := w) (put7_same (by rw [add_block]; exact hne))]
  exact hr.cell y rfl i hi
theorem RatR.put7 {w : World} {b : Nat} {v0 v1 v2 v3 v4 v5 v6 v : Value} {p q : Int} {m : Nat} (h : ZBox w b) (hv : RatR w v p q m) : RatR (put7 w b v0 v1 v2 v3 v4 v5 v6) v p q m := by
  obtain ⟨n1, a1, l1, c1, n2, a2, l2, c2, e, h1, h2⟩ := hv
  exact ⟨n1, a1, l1, c1, n2, a2, l2, c2, e, h1.put7 h, h2.put7 h⟩
end Go.Proofs.YtclokcoimdjaeaaGreatDoor
