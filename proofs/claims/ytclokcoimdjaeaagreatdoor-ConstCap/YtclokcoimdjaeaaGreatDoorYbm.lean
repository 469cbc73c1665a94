/- constants: the second road counts bits. -/
import Derived.Test.YtclokcoimdjaeaaGreatDoorGimm
import Derived.Test.YtclokcoimdjaeaaGreatDoorQrm
import Derived.Deep.CutRange
import Derived.Deep.RegionWith
namespace Go.Proofs.YtclokcoimdjaeaaGreatDoor
set_option linter.unusedVariables false
open Go.RowKit
theorem bit_of_val {zs : List Int} (hw : Words 65536 zs) (i : Nat) : val 65536 zs / 2 ^ i % 2 = zs[i / 16]?.getD 0 / 2 ^ (i % 16) % 2 := by
  have hk : val 65536 zs = val 65536 (zs.take (i / 16)) + 65536 ^ (i / 16) * val 65536 (zs.drop (i / 16)) := by
    by_cases h : i / 16 ≤ zs.length
    · exact val_split _ _ _ h
    · rw [List.take_of_length_le (by omega), List.drop_eq_nil_of_le (by omega)]; simp [val]
  have h1 := val_nonneg (B := 65536) (by decide) (hw.take (i / 16))
  have h2 : val 65536 (zs.take (i / 16)) < 65536 ^ (i / 16) := by
    have e := val_lt (B := 65536) (by decide) (hw.take (i / 16))
    have m := pow_mono (B := 65536) (by decide) (m := (zs.take (i / 16)).length) (n := i / 16) (by rw [List.length_take]; omega)
    omega
  have hp : (65536 : Int) ^ (i / 16) = 2 ^ (16 * (i / 16)) := by rw [Int.pow_mul]; rfl
  have hd : val 65536 zs / 65536 ^ (i / 16) = val 65536 (zs.drop (i / 16)) := by
    rw [hk, Int.add_mul_ediv_left _ _ (by have := pow_pos' (B := 65536) (by decide) (i / 16); omega), Int.ediv_eq_zero_of_lt h1 h2]; omega
  have hi : (2 : Int) ^ i = 65536 ^ (i / 16) * 2 ^ (i % 16) := by rw [hp, ← Int.pow_add]; congr 1; omega
  rw [hi, ← Int.ediv_ediv_of_nonneg (Int.le_of_lt (pow_pos' (by decide) _)), hd, val_drop]
  generalize zs[i / 16]?.getD 0 = d
  generalize val 65536 (zs.drop (i / 16 + 1)) = v
  have hr : i % 16 < 16 := by omega
  have he : (65536 : Int) = 2 ^ (i % 16) * (2 * 2 ^ (15 - i % 16)) := by
    have : (65536 : Int) = 2 ^ (i % 16 + (1 + (15 - i % 16))) := by rw [show i % 16 + (1 + (15 - i % 16)) = 16 from by omega]; rfl
    rw [this, Int.pow_add, Int.pow_add, Int.pow_one]
  have hpos := pow_pos' (B := 2) (by decide) (i % 16)
  rw [he, Int.mul_assoc, Int.add_mul_ediv_left _ _ (by omega), Int.mul_assoc]
  generalize 2 ^ (15 - i % 16) * v = u
  omega
set_option maxHeartbeats 1000000 in
theorem bit_any (x : Option Addr) (ca : Nat) (xs : List Int) (i : Nat) (w : World) (ha : Row w .i64 65536 x ca xs) (hl : xs.length ≤ 1000000) (hi : i ≤ 100000000) :
    Calls Tryz.prog 153 #[.slice x xs.length ca, .int .i64 i] w fun e w' => e = .returned (.int .i64 (val 65536 xs / 2 ^ i % 2)) ∧ w' = w := by
  have hb := bit_of_val ha.words i
  rw [hb]
  clear hb
  by_cases h : i / 16 < xs.length
  · obtain ⟨x, rfl⟩ := ha.some_of h
    obtain ⟨p, hp, hp0, hp1⟩ := ha.words.get (by decide) (i / 16)
    have hce := ha.cell x rfl (i / 16) h
    rw [hp] at hce ⊢
    clear hp
    have e1 : (i : Int).tdiv 16 = ((i / 16 : Nat) : Int) := by rw [Int.tdiv_eq_ediv_of_nonneg (by omega)]; omega
    have e2 : (i : Int).tmod 16 = ((i % 16 : Nat) : Int) := by rw [Int.tmod_eq_emod_of_nonneg (by omega)]; omega
    have e3 : ¬ ((i / 16 : Nat) : Int) ≥ (xs.length : Int) := by omega
    go_enter Tryz.func153, Tryz.ntmps153
    go_wp2
    go_ret
    exact ⟨ret_int (Int.tmod_eq_emod_of_nonneg (Int.ediv_nonneg hp0 (Int.le_of_lt (pow_pos' (by decide) _)))), rfl⟩
  · have e1 : (i : Int).tdiv 16 = ((i / 16 : Nat) : Int) := by rw [Int.tdiv_eq_ediv_of_nonneg (by omega)]; omega
    have e3 : ((i / 16 : Nat) : Int) ≥ (xs.length : Int) := by omega
    have h0 : xs[i / 16]?.getD 0 = 0 := Row.at_out h
    rw [h0]
    have e4 : (0 : Int) / 2 ^ (i % 16) % 2 = 0 := by simp
    rw [e4]
    clear e4 h0 e1
    have e5 : (xs.length : Int) ≤ (i : Int) / 16 := by omega
    go_enter Tryz.func153, Tryz.ntmps153
    go_wp2
    go_ret
    exact ⟨rfl, rfl⟩
theorem bits_down {v : Int} {k : Nat} (h0 : 0 ≤ v) (h : v < 2 ^ (k + 1)) (hb : v / 2 ^ k % 2 = 0) : v < 2 ^ k := by
  have hp := pow_pos' (B := 2) (by decide) k
  have h1 : v / 2 ^ k < 2 := Int.ediv_lt_of_lt_mul hp (by rw [Int.pow_succ] at h; omega)
  have h2 : 0 ≤ v / 2 ^ k := Int.ediv_nonneg h0 (Int.le_of_lt hp)
  have h3 : v / 2 ^ k = 0 := by omega
  have h4 := Int.lt_ediv_add_one_mul_self v hp
  rw [h3] at h4
  omega
theorem bits_top {v : Int} {k : Nat} (h0 : 0 ≤ v) (hb : ¬ v / 2 ^ k % 2 = 0) : 2 ^ k ≤ v := by
  have hp := pow_pos' (B := 2) (by decide) k
  by_cases h : 2 ^ k ≤ v
  · exact h
  · rw [Int.ediv_eq_zero_of_lt h0 (by omega)] at hb
    exact absurd rfl hb
set_option maxHeartbeats 1000000 in
theorem rBits_any (na : Bool) (x : Option Addr) (ca : Nat) (xs : List Int) (w : World) (ha : Row w .i64 65536 x ca xs) (hl : xs.length ≤ 1000000) :
    Calls Tryz.prog 82 #[.agg #[.bool na, .slice x xs.length ca]] w fun e w' => ∃ L : Nat, e = .returned (.int .i64 L) ∧ HasBits (val 65536 xs) L ∧ Below w.heap.size w w' := by
  have hv := val_nonneg (B := 65536) (by decide) ha.words
  have hv2 := val_lt (B := 65536) (by decide) ha.words
  have hp : (65536 : Int) ^ xs.length = 2 ^ (16 * xs.length) := by rw [Int.pow_mul]; rfl
  rw [hp] at hv2
  replace hv : Hid _ := hv
  replace hv2 : Hid _ := hv2
  clear hp
  have hB : Below w.heap.size w (w.alloc (.cells #[.bool na, .slice x xs.length ca] 38)) := (Below.refl _ _).alloc (Nat.le_refl _) _
  have haB := ha.next hB
  go_enter Tryz.func82, Tryz.ntmps82
  go_wp2
  go_loop [3] (fun t => ∃ k : Nat, k ≤ 16 * xs.length ∧ t = .int .i64 k ∧ Hid (val 65536 xs < 2 ^ k)) (fun t => (intOf t).toNat)
  case atStart => exact ⟨16 * xs.length, Nat.le_refl _, by simp, hv2⟩
  case round =>
    obtain ⟨k, hk, rfl, H⟩ := hrel
    cases k with
    | zero =>
      go_wp2
      go_ret
      exact ⟨0, rfl, ⟨H.out, .inl rfl⟩, hB⟩
    | succ k =>
      have hbit := bit_any x ca xs k _ haB (by omega) (by omega)
      by_cases hz : val 65536 xs / 2 ^ k % 2 = 0
      · rw [hz] at hbit
        have HD := bits_down hv.out H.out hz
        replace HD : Hid _ := HD
        replace hz : Hid _ := hz
        go_wp2_with (go_at_call 153; refine Calls.mono hbit ?_; rintro e w' ⟨rfl, rfl⟩)
        go_round
        case rel => exact ⟨k, by omega, by go_num, HD⟩
        case measure => simp [intOf]
      · have HT := bits_top hv.out hz
        have e1 : val 65536 xs / 2 ^ k % 2 = 1 := by omega
        rw [e1] at hbit
        replace HT : Hid _ := HT
        replace hz : Hid _ := hz
        replace e1 : Hid _ := e1
        go_wp2_with (go_at_call 153; refine Calls.mono hbit ?_; rintro e w' ⟨rfl, rfl⟩)
        go_ret
        exact ⟨k + 1, by go_num, ⟨H.out, .inr HT.out⟩, hB⟩
theorem rBits_num {w : World} {u : Value} {y : Int} {m : Nat} (hu : Rint w u y m) (hm : m ≤ 1000) :
    Calls Tryz.prog 82 #[u] w fun e w' => ∃ L : Nat, e = .returned (.int .i64 L) ∧ HasBits (y.natAbs : Int) L ∧ Below w.heap.size w w' := by
  obtain ⟨na, x, ca, xs, rfl, ha, _, rfl, hl⟩ := hu
  have hva := val_abs (B := 65536) (n := na) (by decide) ha.words
  rw [← hva]
  exact rBits_any na x ca xs w ha (by omega)
end Go.Proofs.YtclokcoimdjaeaaGreatDoor
namespace Go.Proofs.YtclokcoimdjaeaaGreatDoor
open Go.RowKit Go.Shelf Go.Lib
attribute [local go_sem ↓] Go.wp_at_zero Go.wp_at_succ
theorem bytes_empty {s : ByteArray} (h : s.size = 0) : s = ⟨#[]⟩ := by
  cases s with
  | mk d =>
    have : d = #[] := Array.eq_empty_of_size_eq_zero h
    rw [this]
/-- A constant's box whose kind is still 0: no digits of the second road lie in it. -/
def ZBox (w : World) (b : Nat) : Prop := ∃ (b0 : Bool) (s0 : ByteArray) (x1 : Bool) (y1 : Option Addr) (z1 u1 : Nat) (x2 : Bool) (y2 : Option Addr) (z2 u2 T : Nat), w.heap[b]? = some (.cells #[.int .i64 0, .bool b0, .string s0, .bool x1, .slice y1 z1 u1, .bool x2, .slice y2 z2 u2] T (0, 0))
theorem ZBox.apart {w : World} {b : Nat} (h : ZBox w b) {B : Int} {x : Addr} {cap : Nat} {ds : List Int} (hr : Row w .i64 B (some x) cap ds) (hn : nrm ds) (hne : ds ≠ []) : x.block ≠ b := by
  obtain ⟨b0, s0, x1, y1, z1, u1, x2, y2, z2, u2, T, h⟩ := h
  intro e
  have key : ∀ i, i < ds.length → (x.add i).off = 0 ∧ ds[i]?.getD 0 = 0 := by
    intro i hi
    have h1 := hr.cell x rfl i hi
    unfold World.cell? at h1
    rw [add_block, e, h] at h1
    simp only at h1
    split at h1
    · cases h1
    · generalize (x.add i).off = o at h1 ⊢
      match o, h1 with
      | 0, h1 => simp at h1; exact ⟨rfl, h1.symm⟩
      | 1, h1 => simp at h1
      | 2, h1 => simp at h1
      | 3, h1 => simp at h1
      | 4, h1 => simp at h1
      | 5, h1 => simp at h1
      | 6, h1 => simp at h1
      | o + 7, h1 => simp at h1
  match ds, hn, hne, key with
  | [d], hn, _, key => exact hn.1 rfl (by simpa using (key 0 (by simp)).2)
  | d :: d' :: l, _, _, key =>
    have h0 := (key 0 (by simp)).1
    have h1 := (key 1 (by simp)).1
    simp [Addr.add] at h0 h1
    try omega
theorem Rint.put7 {w : World} {b : Nat} {v0 v1 v2 v3 v4 v5 v6 v : Value} {z : Int} {m : Nat} (h : ZBox w b) (hv : Rint w v z m) : Rint (put7 w b v0 v1 v2 v3 v4 v5 v6) v z m := by
  obtain ⟨neg, a, cap, ds, rfl, hr, hn, hz, hl⟩ := hv
  refine ⟨neg, a, cap, ds, rfl, ⟨hr.le, hr.max, hr.nil, fun y hy i hi => ?_, hr.words⟩, hn, hz, hl⟩
  subst hy
  have hne := h.apart hr hn.1 (by intro e; subst e; simp at hi)
  rw [World.cell?_of_block (w := w) (put7_same (by rw [add_block]; exact hne))]
  exact hr.cell y rfl i hi
theorem RatR.put7 {w : World} {b : Nat} {v0 v1 v2 v3 v4 v5 v6 v : Value} {p q : Int} {m : Nat} (h : ZBox w b) (hv : RatR w v p q m) : RatR (put7 w b v0 v1 v2 v3 v4 v5 v6) v p q m := by
  obtain ⟨n1, a1, l1, c1, n2, a2, l2, c2, e, h1, h2⟩ := hv
  exact ⟨n1, a1, l1, c1, n2, a2, l2, c2, e, h1.put7 h, h2.put7 h⟩
/-- A number taken over: its box is c. -/
def NumC (w : World) (r : Nat) (k : Int) (A : Array Value) (n d : Int) (M : Nat) (v : Value) (wx : World) : Prop :=
  ∃ c m1 b1 k1 d1 m2 b2 k2 d2, v = .pointer (some ⟨c, 0, none⟩) ∧ wx.heap[r]? = some (.cells A 32 (0, 0)) ∧ wx.heap[r + 1]? = some (.cells #[.int .i64 0, .bool false, .string ⟨#[]⟩, .bool false, .slice none 0 0, .bool false, .slice none 0 0] 42 (0, 0)) ∧ r + 1 < c ∧ wx.heap[c]? = some (.cells #[.int .i64 k, .bool false, .string ⟨#[]⟩, .bool m1, .slice b1 k1 d1, .bool m2, .slice b2 k2 d2] 42 (0, 0)) ∧ LowR wx (.agg #[.bool m1, .slice b1 k1 d1, .bool m2, .slice b2 k2 d2]) n d M ∧ Below r w wx
set_option maxRecDepth 20000 in
set_option maxHeartbeats 2000000 in
theorem from_num3 {w : World} (b : Bool) (s : ByteArray) {n1 : Bool} {a1 : Option Addr} {l1 c1 : Nat} {n2 : Bool} {a2 : Option Addr} {l2 c2 : Nat} {n d : Int} {m : Nat} (hv : Frac w (.agg #[.bool n1, .slice a1 l1 c1, .bool n2, .slice a2 l2 c2]) n d m) (hm : m ≤ 210) :
    Calls Tryz.prog 40 #[.agg #[.int .i64 3, .bool b, .string s, .bool n1, .slice a1 l1 c1, .bool n2, .slice a2 l2 c2]] w fun e w' => ∃ m1 b1 k1 d1 m2 b2 k2 d2 p q B, e = .returned (.tuple #[.agg #[.int .i64 3, .bool false, .string ⟨#[]⟩, .bool m1, .slice b1 k1 d1, .bool m2, .slice b2 k2 d2], .bool B]) ∧ RatR w' (.agg #[.bool m1, .slice b1 k1 d1, .bool m2, .slice b2 k2 d2]) p q (2 * m + 3) ∧ Low (pN n d) (pD d) p q ∧ B = (!b && decide (s.size = 0) && (decide ((3 : Int) = 4) || decide (q = 1))) ∧ Below w.heap.size w w' := by
  obtain ⟨W, hW, hq0, hq1, hbW, hsz⟩ := two_new (w := w) (A := .cells #[.int .i64 3, .bool b, .string s, .bool n1, .slice a1 l1 c1, .bool n2, .slice a2 l2 c2] 32) (B := .cells #[.int .i64 0, .bool false, .string ⟨#[]⟩, .bool false, .slice none 0 0, .bool false, .slice none 0 0] 42)
  obtain ⟨⟨p0, p1, p2, p3, p4, p5, p6⟩, _, _⟩ := cells7 hq0
  have kA : Hid (∀ X, Below W.heap.size W X → Calls Tryz.prog 86 #[.agg #[.bool n1, .slice a1 l1 c1, .bool n2, .slice a2 l2 c2]] X fun e w' => ∃ t, e = .returned t ∧ LowR w' t (pN n d) (pD d) (2 * m + 3) ∧ Below X.heap.size X w') := fun X hX => FromRat_num ((hv.next hbW).next hX) (by omega)
  have hall : Hid (Below w.heap.size w W ∧ W.heap.size = w.heap.size + 1 + 1 ∧ W.heap[w.heap.size]? = some (.cells #[.int .i64 3, .bool b, .string s, .bool n1, .slice a1 l1 c1, .bool n2, .slice a2 l2 c2] 32 (0, 0)) ∧ W.heap[w.heap.size + 1]? = some (.cells #[.int .i64 0, .bool false, .string ⟨#[]⟩, .bool false, .slice none 0 0, .bool false, .slice none 0 0] 42 (0, 0))) := ⟨hbW, hsz, hq0, hq1⟩
  have hdh : Hid (Below W.heap.size W W.drew) := (Below.refl _ _).drew
  have hda : Hid (Below W.heap.size W (W.drew.alloc (.cells #[.int .i64 0, .bool false, .string ⟨#[]⟩, .bool false, .slice none 0 0, .bool false, .slice none 0 0] 42))) := (Below.refl _ _).drew.alloc (Nat.le_refl _) _
  clear hq0 hq1 hbW hsz hv
  go_enter Tryz.func40, Tryz.ntmps40
  go_upto_region 1 with fail
  rw [← hW]
  clear hW
  obtain ⟨r, hr⟩ : ∃ r, r = w.heap.size := ⟨_, rfl⟩
  have hrh : Hid (r = w.heap.size) := hr
  have hlt : r < W.heap.size := by have := hall.out.2.1; omega
  have hne : r ≠ W.heap.size := by omega
  rw [← hr] at p0 p1 p2 p3 p4 p5 p6 hall ⊢
  clear hr
  go_upto_region 8 with fail
  go_cut [4] from 40 to 45 (fun v wx => Hid (NumC w r 3 #[.int .i64 3, .bool b, .string s, .bool n1, .slice a1 l1 c1, .bool n2, .slice a2 l2 c2] (pN n d) (pD d) (2 * m + 3) v wx))
  case first =>
    go_region_with (first
      | (go_at_call 86; refine Calls.mono (kA.out _ hdh.out) ?_; rintro e w5 ⟨t5, rfl, hO, hb5⟩; clear kA
         replace hb5 : Below W.heap.size W w5 := hdh.out.trans hb5
         obtain ⟨m1, b1, k1, d1, m2, b2, k2, d2, rfl⟩ := hO.form
         replace p0 := keep_cell hb5 p0; replace p1 := keep_cell hb5 p1; replace p2 := keep_cell hb5 p2; replace p3 := keep_cell hb5 p3; replace p4 := keep_cell hb5 p4; replace p5 := keep_cell hb5 p5; replace p6 := keep_cell hb5 p6
         have hOh : Hid (LowR w5 (.agg #[.bool m1, .slice b1 k1 d1, .bool m2, .slice b2 k2 d2]) (pN n d) (pD d) (2 * m + 3)) := hO
         have hb5h : Hid (Below W.heap.size W w5) := hb5
         have hlt5 : r < w5.heap.size := Nat.lt_of_lt_of_le hlt hb5.size
         have hne5 : r ≠ w5.heap.size := Nat.ne_of_lt hlt5
         clear hb5 hO)
      | (go_at_call 86; refine Calls.mono (kA.out _ hda.out) ?_; rintro e w5 ⟨t5, rfl, hO, hb5⟩; clear kA
         obtain ⟨m1, b1, k1, d1, m2, b2, k2, d2, rfl⟩ := hO.form
         have hnew : w5.heap[W.heap.size]? = some (.cells #[.int .i64 0, .bool false, .string ⟨#[]⟩, .bool false, .slice none 0 0, .bool false, .slice none 0 0] 42 (0, 0)) := (hb5.block W.heap.size (by simp)).trans (newAt W.drew (.cells #[.int .i64 0, .bool false, .string ⟨#[]⟩, .bool false, .slice none 0 0, .bool false, .slice none 0 0] 42))
         replace hb5 : Below W.heap.size W w5 := bthen hda.out hb5
         replace p0 := keep_cell hb5 p0; replace p1 := keep_cell hb5 p1; replace p2 := keep_cell hb5 p2; replace p3 := keep_cell hb5 p3; replace p4 := keep_cell hb5 p4; replace p5 := keep_cell hb5 p5; replace p6 := keep_cell hb5 p6
         have hOh : Hid (LowR w5 (.agg #[.bool m1, .slice b1 k1 d1, .bool m2, .slice b2 k2 d2]) (pN n d) (pD d) (2 * m + 3)) := hO
         have hb5h : Hid (Below W.heap.size W w5) := hb5
         have hlt5 : r < w5.heap.size := Nat.lt_of_lt_of_le hlt hb5.size
         have hne5 : r ≠ w5.heap.size := Nat.ne_of_lt hlt5
         have hnewh : Hid (w5.heap[W.heap.size]? = some (.cells #[.int .i64 0, .bool false, .string ⟨#[]⟩, .bool false, .slice none 0 0, .bool false, .slice none 0 0] 42 (0, 0))) := hnew
         obtain ⟨_, rf, _⟩ := cells7 hnew
         have rf0 := rf 0; have rf1 := rf 1; have rf2 := rf 2; have rf3 := rf 3; have rf4 := rf 4; have rf5 := rf 5; have rf6 := rf 6
         clear hb5 hO hnew rf))
    all_goals
      go_wp2_with fail
      go_meet
      case rel =>
       have hs := hall.out.2.1
       have h5 := hb5h.out
       have s5 := h5.size
       have hqA : w5.heap[r]? = some (.cells #[.int .i64 3, .bool b, .string s, .bool n1, .slice a1 l1 c1, .bool n2, .slice a2 l2 c2] 32 (0, 0)) := (h5.block r (by omega)).trans hall.out.2.2.1
       have hqR : w5.heap[r + 1]? = some (.cells #[.int .i64 0, .bool false, .string ⟨#[]⟩, .bool false, .slice none 0 0, .bool false, .slice none 0 0] 42 (0, 0)) := (h5.block (r + 1) (by omega)).trans hall.out.2.2.2
       have hbr : Below r w w5 := hall.out.1.trans (h5.mono (by omega))
       first
         | (have zb : ZBox w5 W.heap.size := ⟨_, _, _, _, _, _, _, _, _, _, _, hnewh.out⟩
            obtain ⟨p, q, hR, hlow⟩ := hOh.out
            have hT : NumC w r 3 #[.int .i64 3, .bool b, .string s, .bool n1, .slice a1 l1 c1, .bool n2, .slice a2 l2 c2] (pN n d) (pD d) (2 * m + 3) (.pointer (some ⟨W.heap.size, 0, none⟩)) (put7 w5 W.heap.size (.int .i64 3) (.bool false) (.string ⟨#[]⟩) (.bool m1) (.slice b1 k1 d1) (.bool m2) (.slice b2 k2 d2)) := ⟨W.heap.size, m1, b1, k1, d1, m2, b2, k2, d2, rfl, (put7_same (by omega)).trans hqA, (put7_same (by omega)).trans hqR, by omega, put7_at hnewh.out, ⟨p, q, hR.put7 zb, hlow⟩, put7_below hbr (by omega)⟩
            unfold put7 at hT
            exact hT)
         | (have hal : Below w5.heap.size w5 (w5.alloc (.cells #[.int .i64 3, .bool false, .string ⟨#[]⟩, .bool m1, .slice b1 k1 d1, .bool m2, .slice b2 k2 d2] 42)) := (Below.refl _ _).alloc (Nat.le_refl _) _
            have hT : NumC w r 3 #[.int .i64 3, .bool b, .string s, .bool n1, .slice a1 l1 c1, .bool n2, .slice a2 l2 c2] (pN n d) (pD d) (2 * m + 3) (.pointer (some ⟨w5.heap.size, 0, none⟩)) (w5.alloc (.cells #[.int .i64 3, .bool false, .string ⟨#[]⟩, .bool m1, .slice b1 k1 d1, .bool m2, .slice b2 k2 d2] 42)) := ⟨w5.heap.size, m1, b1, k1, d1, m2, b2, k2, d2, rfl, (hal.block r (by omega)).trans hqA, (hal.block (r + 1) (by omega)).trans hqR, by omega, newAt _ _, hOh.out.next hal, hbr.trans (hal.mono (by omega))⟩
            exact hT)
         | trace_state
  case rest =>
    obtain ⟨c, m1, b1, k1, d1, m2, b2, k2, d2, rfl, hqA, hqR, hcr, hqC, ⟨p, q, hR, hlow⟩, hb⟩ := hcut.out
    clear hcut kA hall hdh hda hlt hne p0 p1 p2 p3 p4 p5 p6
    obtain ⟨⟨p0, p1, p2, p3, p4, p5, p6⟩, _, _⟩ := cells7 hqA
    obtain ⟨⟨q0, q1, q2, q3, q4, q5, q6⟩, _, _⟩ := cells7 hqC
    have hall : Hid (wc.heap[r + 1]? = some (.cells #[.int .i64 0, .bool false, .string ⟨#[]⟩, .bool false, .slice none 0 0, .bool false, .slice none 0 0] 42 (0, 0)) ∧ RatR wc (.agg #[.bool m1, .slice b1 k1 d1, .bool m2, .slice b2 k2 d2]) p q (2 * m + 3) ∧ Low (pN n d) (pD d) p q ∧ Below w.heap.size w wc ∧ r + 1 < wc.heap.size) := ⟨hqR, hR, hlow, hrh.out ▸ hb, (Array.getElem?_eq_some_iff.1 hqR).1⟩
    have hcc : Hid (r + 1 < c) := hcr
    clear hqA hqR hcr hqC hR hlow hb
    cases b with
    | true =>
       obtain ⟨W8, hW8⟩ : ∃ W8, W8 = put7 wc (r + 1) (.int .i64 3) (.bool false) (.string ⟨#[]⟩) (.bool m1) (.slice b1 k1 d1) (.bool m2) (.slice b2 k2 d2) := ⟨_, rfl⟩
       have hqW8 : Hid (W8.heap[r + 1]? = some (.cells #[.int .i64 3, .bool false, .string ⟨#[]⟩, .bool m1, .slice b1 k1 d1, .bool m2, .slice b2 k2 d2] 42 (0, 0))) := by show _ = _; rw [hW8]; exact put7_at hall.out.1
       have hBW8 : Hid (Below w.heap.size w W8 ∧ RatR W8 (.agg #[.bool m1, .slice b1 k1 d1, .bool m2, .slice b2 k2 d2]) p q (2 * m + 3)) := by
         show _ ∧ _
         rw [hW8]
         exact ⟨put7_below hall.out.2.2.2.1 (by have := hrh.out; omega), hall.out.2.1.put7 ⟨_, _, _, _, _, _, _, _, _, _, _, hall.out.1⟩⟩
       obtain ⟨_, rf, _⟩ := cells7 hall.out.1
       have rf0 := rf 0
       have rf1 := rf 1
       have rf2 := rf 2
       have rf3 := rf 3
       have rf4 := rf 4
       have rf5 := rf 5
       have rf6 := rf 6
       obtain ⟨⟨o0, o1, o2, o3, o4, o5, o6⟩, _, _⟩ := cells7 hall.out.1
       clear rf
       go_upto_region 9 with fail
       go_region
       all_goals
         go_wp2
         unfold put7 at hW8
         rw [← hW8]
         obtain ⟨⟨j0, j1, j2, j3, j4, j5, j6⟩, _, _⟩ := cells7 hqW8.out
         exact bodyPost_ret (v := .tuple #[.agg #[.int .i64 3, .bool false, .string ⟨#[]⟩, .bool m1, .slice b1 k1 d1, .bool m2, .slice b2 k2 d2], .bool false]) (by simp [results, Tryz.results40, go_sem, j0, j1, j2, j3, j4, j5, j6]) rfl ⟨m1, b1, k1, d1, m2, b2, k2, d2, p, q, false, rfl, RatR.next hBW8.out.2 ((Below.refl _ _).drew), hall.out.2.2.1, by first | rfl | (rw [decide_eq_false hsh.out]; rfl), hBW8.out.1.drew⟩
    | false =>
     by_cases hs : s.size = 0
     · obtain rfl : s = ⟨#[]⟩ := bytes_empty hs
       clear hs
       have kI : Hid (∀ X, Below wc.heap.size wc X → Calls Tryz.prog 65 #[.agg #[.bool m1, .slice b1 k1 d1, .bool m2, .slice b2 k2 d2]] X fun e w' => e = .returned (.bool (decide (q = 1))) ∧ Below X.heap.size X w') := fun X hX => IsInt_num (hall.out.2.1.next hX) hall.out.2.2.1.1 (by omega)
       have hdh : Hid (Below wc.heap.size wc wc.drew) := (Below.refl _ _).drew
       generalize hD : decide (q = 1) = D at kI
       have hDh : Hid (decide (q = 1) = D) := hD
       clear hD
       go_upto_region 9 with fail
       go_region_with (first
         | (go_at_call 65; refine Calls.mono (kI.out _ hdh.out) ?_; rintro e w5 ⟨rfl, hb5⟩; clear kI
            replace hb5 : Below wc.heap.size wc w5 := hdh.out.trans hb5
            replace p0 := keep_cell hb5 p0; replace p1 := keep_cell hb5 p1; replace p2 := keep_cell hb5 p2; replace p3 := keep_cell hb5 p3; replace p4 := keep_cell hb5 p4; replace p5 := keep_cell hb5 p5; replace p6 := keep_cell hb5 p6
            replace q0 := keep_cell hb5 q0; replace q1 := keep_cell hb5 q1; replace q2 := keep_cell hb5 q2; replace q3 := keep_cell hb5 q3; replace q4 := keep_cell hb5 q4; replace q5 := keep_cell hb5 q5; replace q6 := keep_cell hb5 q6
            have hb5h : Hid (Below wc.heap.size wc w5) := hb5
            have g5 := (hb5.block (r + 1) hall.out.2.2.2.2).trans hall.out.1
            obtain ⟨⟨o0, o1, o2, o3, o4, o5, o6⟩, rf, _⟩ := cells7 g5
            have rf0 := rf 0; have rf1 := rf 1; have rf2 := rf 2; have rf3 := rf 3; have rf4 := rf 4; have rf5 := rf 5; have rf6 := rf 6
            clear hb5 g5 rf))
       all_goals
         have g5 := (hb5h.out.block (r + 1) hall.out.2.2.2.2).trans hall.out.1
         obtain ⟨W8, hW8⟩ : ∃ W8, W8 = put7 w5 (r + 1) (.int .i64 3) (.bool false) (.string ⟨#[]⟩) (.bool m1) (.slice b1 k1 d1) (.bool m2) (.slice b2 k2 d2) := ⟨_, rfl⟩
         have hqW8 : Hid (W8.heap[r + 1]? = some (.cells #[.int .i64 3, .bool false, .string ⟨#[]⟩, .bool m1, .slice b1 k1 d1, .bool m2, .slice b2 k2 d2] 42 (0, 0))) := by show _ = _; rw [hW8]; exact put7_at g5
         have hBW8 : Hid (Below w.heap.size w W8 ∧ RatR W8 (.agg #[.bool m1, .slice b1 k1 d1, .bool m2, .slice b2 k2 d2]) p q (2 * m + 3)) := by
           show _ ∧ _
           rw [hW8]
           exact ⟨put7_below (bthen hall.out.2.2.2.1 hb5h.out) (by have := hrh.out; omega), (hall.out.2.1.next hb5h.out).put7 ⟨_, _, _, _, _, _, _, _, _, _, _, g5⟩⟩
         clear g5 hb5h hdh
         go_wp2
         unfold put7 at hW8
         rw [← hW8]
         obtain ⟨⟨j0, j1, j2, j3, j4, j5, j6⟩, _, _⟩ := cells7 hqW8.out
         exact bodyPost_ret (v := .tuple #[.agg #[.int .i64 3, .bool false, .string ⟨#[]⟩, .bool m1, .slice b1 k1 d1, .bool m2, .slice b2 k2 d2], .bool D]) (by simp [results, Tryz.results40, go_sem, j0, j1, j2, j3, j4, j5, j6]) rfl ⟨m1, b1, k1, d1, m2, b2, k2, d2, p, q, D, rfl, hBW8.out.2, hall.out.2.2.1, by rw [hDh.out]; rfl, hBW8.out.1⟩
     · have hsh : Hid (¬ s.size = 0) := hs
       have hemp : s.toList.isEmpty = false := by
         rw [← decide_eq_emptyBytes]
         exact decide_eq_false (fun h => hs (by rw [h]; rfl))
       obtain ⟨W8, hW8⟩ : ∃ W8, W8 = put7 wc (r + 1) (.int .i64 3) (.bool false) (.string ⟨#[]⟩) (.bool m1) (.slice b1 k1 d1) (.bool m2) (.slice b2 k2 d2) := ⟨_, rfl⟩
       have hqW8 : Hid (W8.heap[r + 1]? = some (.cells #[.int .i64 3, .bool false, .string ⟨#[]⟩, .bool m1, .slice b1 k1 d1, .bool m2, .slice b2 k2 d2] 42 (0, 0))) := by show _ = _; rw [hW8]; exact put7_at hall.out.1
       have hBW8 : Hid (Below w.heap.size w W8 ∧ RatR W8 (.agg #[.bool m1, .slice b1 k1 d1, .bool m2, .slice b2 k2 d2]) p q (2 * m + 3)) := by
         show _ ∧ _
         rw [hW8]
         exact ⟨put7_below hall.out.2.2.2.1 (by have := hrh.out; omega), hall.out.2.1.put7 ⟨_, _, _, _, _, _, _, _, _, _, _, hall.out.1⟩⟩
       obtain ⟨_, rf, _⟩ := cells7 hall.out.1
       have rf0 := rf 0
       have rf1 := rf 1
       have rf2 := rf 2
       have rf3 := rf 3
       have rf4 := rf 4
       have rf5 := rf 5
       have rf6 := rf 6
       obtain ⟨⟨o0, o1, o2, o3, o4, o5, o6⟩, _, _⟩ := cells7 hall.out.1
       clear rf
       go_upto_region 9 with fail
       go_region
       all_goals
         go_wp2
         unfold put7 at hW8
         rw [← hW8]
         obtain ⟨⟨j0, j1, j2, j3, j4, j5, j6⟩, _, _⟩ := cells7 hqW8.out
         exact bodyPost_ret (v := .tuple #[.agg #[.int .i64 3, .bool false, .string ⟨#[]⟩, .bool m1, .slice b1 k1 d1, .bool m2, .slice b2 k2 d2], .bool false]) (by simp [results, Tryz.results40, go_sem, j0, j1, j2, j3, j4, j5, j6]) rfl ⟨m1, b1, k1, d1, m2, b2, k2, d2, p, q, false, rfl, RatR.next hBW8.out.2 ((Below.refl _ _).drew), hall.out.2.2.1, by first | rfl | (rw [decide_eq_false hsh.out]; rfl), hBW8.out.1.drew⟩
end Go.Proofs.YtclokcoimdjaeaaGreatDoor
