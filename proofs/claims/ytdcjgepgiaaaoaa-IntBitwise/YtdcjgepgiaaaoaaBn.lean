/- Bitwise over values that read as numbers. -/
import Derived.Test.YtdcjgepgiaaaoaaTq
namespace Go.Proofs.Ytdcjgepgiaaaoaa
open Go.RowKit
attribute [local go_sem ↓] Go.wp_at_zero Go.wp_at_succ
def isBit (o : BinOp) : Prop := o = .and ∨ o = .or ∨ o = .xor ∨ o = .andNot
theorem word_bit {o : BinOp} (ho : isBit o) {a b : Int} (ha : 0 ≤ a ∧ a < 4294967296) (hb : 0 ≤ b ∧ b < 4294967296) {i : Nat} (hi : i < 32) : tb (bits o .u32 a b) i = opB o (tb a i) (tb b i) := by
  obtain ⟨m, rfl⟩ := Int.eq_ofNat_of_zero_le ha.1
  obtain ⟨n, rfl⟩ := Int.eq_ofNat_of_zero_le hb.1
  have h1 : (BitVec.ofInt 32 (m : Int)).toNat = m := by rw [BitVec.ofInt_natCast, BitVec.toNat_ofNat]; exact Nat.mod_eq_of_lt (by omega)
  have h2 : (BitVec.ofInt 32 (n : Int)).toNat = n := by rw [BitVec.ofInt_natCast, BitVec.toNat_ofNat]; exact Nat.mod_eq_of_lt (by omega)
  have hwrap : ∀ X : BitVec 32, IntKind.u32.wrap (X.toNat : Int) = (X.toNat : Int) := by
    intro X
    have := X.isLt
    simp only [IntKind.wrap, IntKind.bits, IntKind.signed]
    simp
    omega
  have g1 : (BitVec.ofInt 32 (m : Int)).getLsbD i = m.testBit i := by rw [← BitVec.testBit_toNat, h1]
  have g2 : (BitVec.ofInt 32 (n : Int)).getLsbD i = n.testBit i := by rw [← BitVec.testBit_toNat, h2]
  rw [tb_nat, tb_nat, ← g1, ← g2]
  rcases ho with rfl | rfl | rfl | rfl
  · show tb (IntKind.u32.wrap ((BitVec.ofInt 32 (m : Int) &&& BitVec.ofInt 32 (n : Int)).toNat : Int)) i = _
    rw [hwrap, tb_nat, BitVec.testBit_toNat, BitVec.getLsbD_and]; rfl
  · show tb (IntKind.u32.wrap ((BitVec.ofInt 32 (m : Int) ||| BitVec.ofInt 32 (n : Int)).toNat : Int)) i = _
    rw [hwrap, tb_nat, BitVec.testBit_toNat, BitVec.getLsbD_or]; rfl
  · show tb (IntKind.u32.wrap ((BitVec.ofInt 32 (m : Int) ^^^ BitVec.ofInt 32 (n : Int)).toNat : Int)) i = _
    rw [hwrap, tb_nat, BitVec.testBit_toNat, BitVec.getLsbD_xor]; rfl
  · show tb (IntKind.u32.wrap ((BitVec.ofInt 32 (m : Int) &&& ~~~ BitVec.ofInt 32 (n : Int)).toNat : Int)) i = _
    rw [hwrap, tb_nat, BitVec.testBit_toNat, BitVec.getLsbD_and, BitVec.getLsbD_not]
    simp [opB, hi]
theorem zip_bits {o : BinOp} (ho : isBit o) : ∀ {ls rs : List Int}, Words 4294967296 ls → Words 4294967296 rs → ls.length = rs.length → ∀ i, i < 32 * ls.length → tb (val 4294967296 (zipB o ls rs)) i = opB o (tb (val 4294967296 ls) i) (tb (val 4294967296 rs) i)
  | [], _, _, _, _, i, hi => by simp at hi
  | a :: ls, [], _, _, hl, _, _ => by simp at hl
  | a :: ls, b :: rs, ha, hb, hl, i, hi => by
    have e : (4294967296 : Int) = 2 ^ 32 := by decide
    have hc := bits_rng o a b
    have ih := zip_bits ho ha.tail hb.tail (by simpa using hl)
    show tb (bits o .u32 a b + 4294967296 * val 4294967296 (zipB o ls rs)) i = opB o (tb (a + 4294967296 * val 4294967296 ls) i) (tb (b + 4294967296 * val 4294967296 rs) i)
    have c1 := tb_cons (d := bits o .u32 a b) (v := val 4294967296 (zipB o ls rs)) (c := 32) hc.1 hc.2 i
    have c2 := tb_cons (d := a) (v := val 4294967296 ls) (c := 32) ha.head.1 ha.head.2 i
    have c3 := tb_cons (d := b) (v := val 4294967296 rs) (c := 32) hb.head.1 hb.head.2 i
    rw [← e] at c1 c2 c3
    rw [c1, c2, c3]
    by_cases h : i < 32
    · rw [if_pos h, if_pos h, if_pos h]
      exact word_bit ho ha.head hb.head h
    · rw [if_neg h, if_neg h, if_neg h]
      exact ih (i - 32) (by simp at hi; omega)
theorem b32 (n : Nat) : (4294967296 : Int) ^ n = 2 ^ (32 * n) := by rw [Int.pow_mul]; rfl
theorem top_bit {ws : List Int} (hw : Words 4294967296 ws) (hl : 0 < ws.length) : tb (val 4294967296 ws) (32 * ws.length - 1) = decide (2147483648 ≤ ws[ws.length - 1]?.getD 0) := by
  have h := val_take_succ 4294967296 ws (ws.length - 1)
  rw [take_all (by omega)] at h
  have h0 := val_nonneg (B := 4294967296) (by decide) (hw.take (ws.length - 1))
  have h1 := val_lt (B := 4294967296) (by decide) (hw.take (ws.length - 1))
  rw [List.length_take, Nat.min_eq_left (by omega), b32] at h1
  rw [h, Int.mul_comm, b32, tb_cons h0 h1, if_neg (by omega), show 32 * ws.length - 1 - 32 * (ws.length - 1) = 31 from by omega]
  obtain ⟨p, hp, hp0, hp1⟩ := hw.get (by decide) (ws.length - 1)
  rw [hp]
  unfold tb
  rw [show (2 : Int) ^ 31 = 2147483648 from by decide, Bool.eq_iff_iff]
  simp only [decide_eq_true_eq]
  omega
theorem signed_eq {ws : List Int} (hw : Words 4294967296 ws) (hl : 0 < ws.length) : signed ws = if tb (val 4294967296 ws) (32 * ws.length - 1) = true then val 4294967296 ws - 2 ^ (32 * ws.length) else val 4294967296 ws := by
  have ht := top_bit hw hl
  have h0 := val_nonneg (B := 4294967296) (by decide) hw
  have h1 := val_lt (B := 4294967296) (by decide) hw
  unfold signed
  rw [b32] at h1 ⊢
  rw [ht]
  simp only [decide_eq_true_eq]
  split
  · rename_i h
    have hp : 0 < val 4294967296 ws := by
      have hh := (tb_high (R := val 4294967296 ws) (n := 32 * ws.length) (by omega) h0 h1).1 (by rw [ht]; simpa using h)
      have := two_pow_pos (32 * ws.length - 1)
      omega
    have e : -val 4294967296 ws = (2 ^ (32 * ws.length) - val 4294967296 ws) + 2 ^ (32 * ws.length) * (-1) := by omega
    rw [e, Int.add_mul_emod_self_left, Int.emod_eq_of_lt (by omega) (by omega)]
    omega
  · rfl
theorem comp_mod {n : Bool} {V : Int} {size : Nat} (h0 : 0 ≤ V) (h1 : V < 4294967296 ^ size) : comp 4294967296 n V size = (if n = true then -V else V) % 2 ^ (32 * size) := by
  unfold comp
  cases n with
  | true => simp [b32]
  | false => simp; rw [← b32, Int.emod_eq_of_lt h0 h1]
theorem comp_bits {o : BinOp} (ho : isBit o) {na nb : Bool} {xs ys ls rs : List Int} {size : Nat} (hx : Words 4294967296 xs) (hy : Words 4294967296 ys) (hl : Words 4294967296 ls) (hr : Words 4294967296 rs) (hs : 0 < size) (l1 : ls.length = size) (l2 : rs.length = size) (h1 : val 4294967296 ls = comp 4294967296 na (val 4294967296 xs) size) (h2 : val 4294967296 rs = comp 4294967296 nb (val 4294967296 ys) size)
    (b1 : val 4294967296 xs < 4294967296 ^ (size - 1)) (b2 : val 4294967296 ys < 4294967296 ^ (size - 1)) (i : Nat) : tb (signed (zipB o ls rs)) i = opB o (tb (num 4294967296 na xs) i) (tb (num 4294967296 nb ys) i) := by
  have x0 := val_nonneg (B := 4294967296) (by decide) hx
  have y0 := val_nonneg (B := 4294967296) (by decide) hy
  have hm := pow_mono (B := 4294967296) (by decide) (m := size - 1) (n := size) (by omega)
  have zl : (zipB o ls rs).length = size := by rw [zipB_len _ _ _ (by omega), l1]
  have zw := zipB_words o ls rs
  have z0 := val_nonneg (B := 4294967296) (by decide) zw
  have z1 := val_lt (B := 4294967296) (by decide) zw
  rw [zl, b32] at z1
  rw [signed_eq zw (by omega), zl]
  rw [comp_mod x0 (by omega)] at h1
  rw [comp_mod y0 (by omega)] at h2
  have nx : (if na = true then -val 4294967296 xs else val 4294967296 xs) = num 4294967296 na xs := rfl
  have ny : (if nb = true then -val 4294967296 ys else val 4294967296 ys) = num 4294967296 nb ys := rfl
  rw [nx] at h1
  rw [ny] at h2
  refine sgn_bits (v := fun i => opB o (tb (num 4294967296 na xs) i) (tb (num 4294967296 nb ys) i)) (by omega) z0 z1 (fun j hj => ?_) (fun j hj => ?_) i
  · rw [zip_bits ho hl hr (by omega) j (by omega), h1, h2, tb_mod _ hj, tb_mod _ hj]
  · have sx : -2 ^ (32 * (size - 1)) ≤ num 4294967296 na xs ∧ num 4294967296 na xs < 2 ^ (32 * (size - 1)) := by
      rw [← b32]; cases na <;> simp [num] <;> omega
    have sy : -2 ^ (32 * (size - 1)) ≤ num 4294967296 nb ys ∧ num 4294967296 nb ys < 2 ^ (32 * (size - 1)) := by
      rw [← b32]; cases nb <;> simp [num] <;> omega
    show opB o _ _ = opB o _ _
    rw [tb_sign sx.1 sx.2 (by omega), tb_sign sy.1 sy.2 (by omega), tb_sign sx.1 sx.2 (by omega), tb_sign sy.1 sy.2 (by omega)]
theorem trim_bound {xs : List Int} (hx : Words 4294967296 xs) {n : Nat} (h : (trimmed xs).length ≤ n) : val 4294967296 xs < 4294967296 ^ n := by
  have h1 := val_lt (B := 4294967296) (by decide) hx.trimmed
  rw [trimmed_val] at h1
  have := pow_mono (B := 4294967296) (by decide) h
  omega
theorem Bitwise_num {w : World} {u v : Value} {y z : Int} {m n : Nat} (o : BinOp) (s : ByteArray) (hs : OpText o s) (hu : Num w u y m) (hv : Num w v z n) (hm : m ≤ 30) (hn : n ≤ 30) :
    Calls Try.prog 27 #[.string s, u, v] w fun e w' => ∃ t r, e = .returned (.tuple #[t, .bool true]) ∧ OutE w' t r 31 ∧ (∀ i, tb r i = opB o (tb y i) (tb z i)) ∧ Below w.heap.size w w' := by
  obtain ⟨na, x, ca, xs, rfl, ha, rfl, hl⟩ := hu
  obtain ⟨nb, x', cb, ys, rfl, hb, rfl, hl'⟩ := hv
  have key : ∀ (size : Nat), 0 < size → (trimmed xs).length ≤ size - 1 → (trimmed ys).length ≤ size - 1 → isBit o → ∀ e w', BitOut o w w' e na nb xs ys size (max xs.length ys.length + 1) → ∃ t r, e = .returned (.tuple #[t, .bool true]) ∧ OutE w' t r 31 ∧ (∀ i, tb r i = opB o (tb (num 4294967296 na xs) i) (tb (num 4294967296 nb ys) i)) ∧ Below w.heap.size w w' := by
    rintro size h0 h1 h2 ho e w' ⟨t, ls, rs, he, hlw, hrw, l1, l2, v1, v2, ⟨neg, a, cap, ds, r1, r2, r3, r4, r5⟩, hbel⟩
    exact ⟨t, _, he, ⟨_, neg, a, cap, ds, r1, r2, r3, r4, by omega⟩, comp_bits ho ha.words hb.words hlw hrw h0 l1 l2 v1 v2 (trim_bound ha.words h1) (trim_bound hb.words h2), hbel⟩
  by_cases hxy : (trimmed xs).length < (trimmed ys).length
  · rcases hs with ⟨rfl, rfl⟩ | ⟨rfl, rfl⟩ | ⟨rfl, rfl⟩ | ⟨rfl, rfl⟩
    · exact (Bitwise_and_lt na nb x x' ca cb xs ys w ha hb (by omega) (by omega) hxy).mono (key _ (by omega) (by omega) (by omega) (.inl rfl))
    · exact (Bitwise_or_lt na nb x x' ca cb xs ys w ha hb (by omega) (by omega) hxy).mono (key _ (by omega) (by omega) (by omega) (.inr (.inl rfl)))
    · exact (Bitwise_xor_lt na nb x x' ca cb xs ys w ha hb (by omega) (by omega) hxy).mono (key _ (by omega) (by omega) (by omega) (.inr (.inr (.inl rfl))))
    · exact (Bitwise_not_lt na nb x x' ca cb xs ys w ha hb (by omega) (by omega) hxy).mono (key _ (by omega) (by omega) (by omega) (.inr (.inr (.inr rfl))))
  · rcases hs with ⟨rfl, rfl⟩ | ⟨rfl, rfl⟩ | ⟨rfl, rfl⟩ | ⟨rfl, rfl⟩
    · exact (Bitwise_and_ge na nb x x' ca cb xs ys w ha hb (by omega) (by omega) (by omega)).mono (key _ (by omega) (by omega) (by omega) (.inl rfl))
    · exact (Bitwise_or_ge na nb x x' ca cb xs ys w ha hb (by omega) (by omega) (by omega)).mono (key _ (by omega) (by omega) (by omega) (.inr (.inl rfl)))
    · exact (Bitwise_xor_ge na nb x x' ca cb xs ys w ha hb (by omega) (by omega) (by omega)).mono (key _ (by omega) (by omega) (by omega) (.inr (.inr (.inl rfl))))
    · exact (Bitwise_not_ge na nb x x' ca cb xs ys w ha hb (by omega) (by omega) (by omega)).mono (key _ (by omega) (by omega) (by omega) (.inr (.inr (.inr rfl))))
set_option maxRecDepth 20000 in
set_option maxHeartbeats 4000000 in
theorem Bitwise_none_lt (s : ByteArray) (hs : ∀ o, ¬ OpText o s) (na nb : Bool) (x y : Option Addr) (ca cb : Nat) (xs ys : List Int) (w : World) (ha : Row w .u32 4294967296 x ca xs) (hb : Row w .u32 4294967296 y cb ys) (_hl : xs.length ≤ 400000) (hlb : ys.length ≤ 400000) (hxy : (trimmed xs).length < (trimmed ys).length) :
    Calls Try.prog 27 #[.string s, .agg #[.bool na, .slice x xs.length ca], .agg #[.bool nb, .slice y ys.length cb]] w fun e w' => e = .returned (.tuple #[.agg #[.bool false, .slice none 0 0], .bool false]) ∧ Below w.heap.size w w' := by
  have tx := trimmed_le xs
  have ty := trimmed_le ys
  have hZ : (trimmed ys).length + 1 ≤ max xs.length ys.length + 1 := by omega
  have hxy' : ((trimmed xs).length : Int) < ((trimmed ys).length : Int) := by omega
  obtain ⟨n1, n2, n3, n4⟩ := opText_no hs
  clear hs
  go_enter Try.func27, Try.ntmps27
  go_wp2
  obtain ⟨W, hW, hbW, hlt, c0, c1, c2, c3, c4, c5, f4, f5⟩ := boxes3 w (.bool na) (.slice x xs.length ca) (.bool nb) (.slice y ys.length cb) (.bool false) (.slice none 0 0) 24
  rw [← hW]
  clear hW
  have haW := ha.next hbW
  have hbW' := hb.next hbW
  have haD : Row W.drew .u32 4294967296 x ca xs := haW.next ((Below.refl _ _).drew)
  have hbD : Row W.drew .u32 4294967296 y cb ys := hbW'.next ((Below.refl _ _).drew)
  go_region_held3 (fun w' => w'.cell? ⟨w.heap.size, 1, none⟩ = some (.slice x xs.length ca) ∧ w'.cell? ⟨w.heap.size + 1, 1, none⟩ = some (.slice y ys.length cb)) (refine ⟨?_, ?_⟩ <;> first | assumption | exact c1 | exact c3)
    (first
      | (go_at_call_of 46 (Value.slice x xs.length ca); refine (trim_any x ca xs _ haD).mono ?_; rintro e w1 ⟨rfl, rfl⟩)
      | (go_at_call_of 46 (Value.slice y ys.length cb); refine (trim_any y cb ys _ hbD).mono ?_; rintro e w1 ⟨rfl, rfl⟩))
  go_wp2
  have hD2 : Below W.heap.size W W.drew.drew := ((Below.refl _ _).drew).drew
  have haE := (haW.next hD2).trim
  have hbE := (hbW'.next hD2).trim
  have d0 := keep_cell hD2 c0
  have d2 := keep_cell hD2 c2
  go_region_held3 (fun w' => w'.cell? ⟨w.heap.size, 0, none⟩ = some (.bool na) ∧ w'.cell? ⟨w.heap.size + 1, 0, none⟩ = some (.bool nb)) (first | exact ⟨d0, d2⟩ | exact ⟨keep_cell hB1 c0, keep_cell hB1 c2⟩ | exact ⟨keep_cell hB2 c0, keep_cell hB2 c2⟩)
    (first
      | (go_at_call_of 56 (Value.slice x (trimmed xs).length ca); refine (complement_any na x ca ((trimmed ys).length + 1) (trimmed xs) _ haE (by omega) (by omega)).mono ?_; rintro e w1 ⟨ls, rfl, hblk1, hsl1, hsw1, hsv1, hb1⟩; replace hsl1 : Hid _ := hsl1; replace hsv1 : Hid _ := hsv1; have hB1 : Below W.heap.size W w1 := bthen hD2 hb1)
      | (go_at_call_of 56 (Value.slice y (trimmed ys).length cb); refine (complement_any nb y cb ((trimmed ys).length + 1) (trimmed ys) _ (hbE.next hb1) (by omega) (by omega)).mono ?_; rintro e w2 ⟨rs, rfl, hblk2, hsl2, hsw2, hsv2, hb2⟩; replace hsl2 : Hid _ := hsl2; replace hsv2 : Hid _ := hsv2; have hB2 : Below W.heap.size W w2 := bthen hB1 hb2))
  go_wp2
  have hblkL : Blk w2 W.heap.size .u32 61 ((trimmed ys).length + 1) ls := hblk1.next hb2
  have hgl : W.heap.size < w1.heap.size := hblk1.lt
  obtain ⟨p, hp, hp0, hp1⟩ := hsw2.get (by decide) 0
  have hcr := hblk2.cell 0 (by rw [hsl2.out]; omega)
  rw [hp] at hcr
  have k4 := keep_cell hB2 c4
  have k5 := keep_cell hB2 c5
  have g4 := keep_frozen hB2 c4 (f4)
  have g5 := keep_frozen hB2 c5 (f5)
  have hBB := bthen hbW hB2
  refine wp_loop_rounds 1 ?_
  rw [rounds_succ]
  go_wp2
  refine bodyPost_ret (v := .tuple #[.agg #[.bool false, .slice none 0 0], .bool false]) (by simp [results, Try.results27, go_sem, k4, k5]) rfl ⟨rfl, (hBB.setCell (by simp; omega) _).setCell (by simp; omega) _⟩
set_option maxRecDepth 20000 in
set_option maxHeartbeats 4000000 in
theorem Bitwise_none_ge (s : ByteArray) (hs : ∀ o, ¬ OpText o s) (na nb : Bool) (x y : Option Addr) (ca cb : Nat) (xs ys : List Int) (w : World) (ha : Row w .u32 4294967296 x ca xs) (hb : Row w .u32 4294967296 y cb ys) (hl : xs.length ≤ 400000) (_hlb : ys.length ≤ 400000) (hxy : (trimmed ys).length ≤ (trimmed xs).length) :
    Calls Try.prog 27 #[.string s, .agg #[.bool na, .slice x xs.length ca], .agg #[.bool nb, .slice y ys.length cb]] w fun e w' => e = .returned (.tuple #[.agg #[.bool false, .slice none 0 0], .bool false]) ∧ Below w.heap.size w w' := by
  have tx := trimmed_le xs
  have ty := trimmed_le ys
  have hZ : (trimmed xs).length + 1 ≤ max xs.length ys.length + 1 := by omega
  have hxy' : ((trimmed ys).length : Int) ≤ ((trimmed xs).length : Int) := by omega
  obtain ⟨n1, n2, n3, n4⟩ := opText_no hs
  clear hs
  go_enter Try.func27, Try.ntmps27
  go_wp2
  obtain ⟨W, hW, hbW, hlt, c0, c1, c2, c3, c4, c5, f4, f5⟩ := boxes3 w (.bool na) (.slice x xs.length ca) (.bool nb) (.slice y ys.length cb) (.bool false) (.slice none 0 0) 24
  rw [← hW]
  clear hW
  have haW := ha.next hbW
  have hbW' := hb.next hbW
  have haD : Row W.drew .u32 4294967296 x ca xs := haW.next ((Below.refl _ _).drew)
  have hbD : Row W.drew .u32 4294967296 y cb ys := hbW'.next ((Below.refl _ _).drew)
  go_region_held3 (fun w' => w'.cell? ⟨w.heap.size, 1, none⟩ = some (.slice x xs.length ca) ∧ w'.cell? ⟨w.heap.size + 1, 1, none⟩ = some (.slice y ys.length cb)) (refine ⟨?_, ?_⟩ <;> first | assumption | exact c1 | exact c3)
    (first
      | (go_at_call_of 46 (Value.slice x xs.length ca); refine (trim_any x ca xs _ haD).mono ?_; rintro e w1 ⟨rfl, rfl⟩)
      | (go_at_call_of 46 (Value.slice y ys.length cb); refine (trim_any y cb ys _ hbD).mono ?_; rintro e w1 ⟨rfl, rfl⟩))
  go_wp2
  have hD2 : Below W.heap.size W W.drew.drew := ((Below.refl _ _).drew).drew
  have haE := (haW.next hD2).trim
  have hbE := (hbW'.next hD2).trim
  have d0 := keep_cell hD2 c0
  have d2 := keep_cell hD2 c2
  go_region_held3 (fun w' => w'.cell? ⟨w.heap.size, 0, none⟩ = some (.bool na) ∧ w'.cell? ⟨w.heap.size + 1, 0, none⟩ = some (.bool nb)) (first | exact ⟨d0, d2⟩ | exact ⟨keep_cell hB1 c0, keep_cell hB1 c2⟩ | exact ⟨keep_cell hB2 c0, keep_cell hB2 c2⟩)
    (first
      | (go_at_call_of 56 (Value.slice x (trimmed xs).length ca); refine (complement_any na x ca ((trimmed xs).length + 1) (trimmed xs) _ haE (by omega) (by omega)).mono ?_; rintro e w1 ⟨ls, rfl, hblk1, hsl1, hsw1, hsv1, hb1⟩; replace hsl1 : Hid _ := hsl1; replace hsv1 : Hid _ := hsv1; have hB1 : Below W.heap.size W w1 := bthen hD2 hb1)
      | (go_at_call_of 56 (Value.slice y (trimmed ys).length cb); refine (complement_any nb y cb ((trimmed xs).length + 1) (trimmed ys) _ (hbE.next hb1) (by omega) (by omega)).mono ?_; rintro e w2 ⟨rs, rfl, hblk2, hsl2, hsw2, hsv2, hb2⟩; replace hsl2 : Hid _ := hsl2; replace hsv2 : Hid _ := hsv2; have hB2 : Below W.heap.size W w2 := bthen hB1 hb2))
  go_wp2
  have hblkL : Blk w2 W.heap.size .u32 61 ((trimmed xs).length + 1) ls := hblk1.next hb2
  have hgl : W.heap.size < w1.heap.size := hblk1.lt
  obtain ⟨p, hp, hp0, hp1⟩ := hsw2.get (by decide) 0
  have hcr := hblk2.cell 0 (by rw [hsl2.out]; omega)
  rw [hp] at hcr
  have k4 := keep_cell hB2 c4
  have k5 := keep_cell hB2 c5
  have g4 := keep_frozen hB2 c4 (f4)
  have g5 := keep_frozen hB2 c5 (f5)
  have hBB := bthen hbW hB2
  refine wp_loop_rounds 1 ?_
  rw [rounds_succ]
  go_wp2
  refine bodyPost_ret (v := .tuple #[.agg #[.bool false, .slice none 0 0], .bool false]) (by simp [results, Try.results27, go_sem, k4, k5]) rfl ⟨rfl, (hBB.setCell (by simp; omega) _).setCell (by simp; omega) _⟩
theorem Bitwise_none {w : World} {u v : Value} {y z : Int} {m n : Nat} (s : ByteArray) (hs : ∀ o, ¬ OpText o s) (hu : Num w u y m) (hv : Num w v z n) (hm : m ≤ 30) (hn : n ≤ 30) :
    Calls Try.prog 27 #[.string s, u, v] w fun e w' => e = .returned (.tuple #[.agg #[.bool false, .slice none 0 0], .bool false]) ∧ Below w.heap.size w w' := by
  obtain ⟨na, x, ca, xs, rfl, ha, rfl, hl⟩ := hu
  obtain ⟨nb, x', cb, ys, rfl, hb, rfl, hl'⟩ := hv
  by_cases hxy : (trimmed xs).length < (trimmed ys).length
  · exact Bitwise_none_lt s hs na nb x x' ca cb xs ys w ha hb (by omega) (by omega) hxy
  · exact Bitwise_none_ge s hs na nb x x' ca cb xs ys w ha hb (by omega) (by omega) (by omega)
end Go.Proofs.Ytdcjgepgiaaaoaa
