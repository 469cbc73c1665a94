/- Bits of whole numbers, those below zero as two's complements without end: plain mathematics. -/
import Derived.Test.YtclokcoimdjaeaaGreatDoorLeafm
import Derived.Test.YtclokcoimdjaeaaGreatDoorBitm
import Derived.Test.YtclokcoimdjaeaaGreatDoorNum
namespace Go.Proofs.YtclokcoimdjaeaaGreatDoor
def tb (z : Int) (i : Nat) : Bool := decide (z / 2 ^ i % 2 = 1)
theorem tb_nat (n i : Nat) : tb (n : Int) i = n.testBit i := by
  unfold tb
  rw [Nat.testBit_eq_decide_div_mod_eq]
  have h : ((n / 2 ^ i % 2 : Nat) : Int) = (n : Int) / 2 ^ i % 2 := by simp
  rw [← h, Bool.eq_iff_iff]
  simp only [decide_eq_true_eq]
  omega
theorem two_pow_pos (n : Nat) : (0 : Int) < 2 ^ n := Int.pow_pos (by decide)
theorem tb_add (z q : Int) (i m : Nat) : tb (z + 2 ^ (i + 1 + m) * q) i = tb z i := by
  unfold tb
  have e : z + 2 ^ (i + 1 + m) * q = z + 2 ^ i * (2 * (2 ^ m * q)) := by
    rw [Int.pow_add, Int.pow_succ, Int.mul_assoc, Int.mul_assoc]
  have hp := two_pow_pos i
  rw [e, Int.add_mul_ediv_left _ _ (by omega)]
  generalize z / 2 ^ i = a
  generalize 2 ^ m * q = b
  rw [Bool.eq_iff_iff]
  simp only [decide_eq_true_eq]
  omega
theorem tb_mod (z : Int) {i N : Nat} (h : i < N) : tb (z % 2 ^ N) i = tb z i := by
  obtain ⟨m, rfl⟩ : ∃ m, N = i + 1 + m := ⟨N - i - 1, by omega⟩
  have e := Int.emod_add_mul_ediv z (2 ^ (i + 1 + m))
  have h2 := tb_add (z % 2 ^ (i + 1 + m)) (z / 2 ^ (i + 1 + m)) i m
  rw [e] at h2
  exact h2.symm
theorem tb_sign {z : Int} {m i : Nat} (h0 : -2 ^ m ≤ z) (h1 : z < 2 ^ m) (hi : m ≤ i) : tb z i = decide (z < 0) := by
  have hm : (2 : Int) ^ m ≤ 2 ^ i := pow_mono (by decide) hi
  have hp := two_pow_pos i
  unfold tb
  by_cases hz : z < 0
  · have e : z / 2 ^ i = -1 := by
      have e1 : z = (z + 2 ^ i) + 2 ^ i * (-1) := by omega
      rw [e1, Int.add_mul_ediv_left _ _ (by omega), Int.ediv_eq_zero_of_lt (by omega) (by omega)]
      omega
    rw [e]
    simp [hz]
  · rw [Int.ediv_eq_zero_of_lt (by omega) (by omega)]
    simp [hz]
theorem two_pow_gt (n : Nat) : (n : Int) < 2 ^ n := by
  have := Nat.lt_two_pow_self (n := n)
  have e : ((2 ^ n : Nat) : Int) = 2 ^ n := by simp
  omega
theorem mod_ext {z y : Int} {K : Nat} (h : ∀ i, i < K → tb z i = tb y i) : z % 2 ^ K = y % 2 ^ K := by
  have hp := two_pow_pos K
  obtain ⟨a, ha⟩ := Int.eq_ofNat_of_zero_le (Int.emod_nonneg z (b := 2 ^ K) (by omega))
  obtain ⟨b, hb⟩ := Int.eq_ofNat_of_zero_le (Int.emod_nonneg y (b := 2 ^ K) (by omega))
  have e : ((2 ^ K : Nat) : Int) = 2 ^ K := by simp
  have ha2 : a < 2 ^ K := by have := Int.emod_lt_of_pos z hp; omega
  have hb2 : b < 2 ^ K := by have := Int.emod_lt_of_pos y hp; omega
  have : a = b := by
    apply Nat.eq_of_testBit_eq
    intro i
    by_cases hi : i < K
    · rw [← tb_nat, ← tb_nat, ← ha, ← hb, tb_mod z hi, tb_mod y hi, h i hi]
    · rw [Nat.testBit_lt_two_pow (Nat.lt_of_lt_of_le ha2 (Nat.pow_le_pow_right (by decide) (by omega))), Nat.testBit_lt_two_pow (Nat.lt_of_lt_of_le hb2 (Nat.pow_le_pow_right (by decide) (by omega)))]
  rw [ha, hb, this]
theorem tb_ext {z y : Int} (h : ∀ i, tb z i = tb y i) : z = y := by
  have h1 := mod_ext (K := (z - y).natAbs) (fun i _ => h i)
  have h2 : (z - y) % 2 ^ (z - y).natAbs = 0 := by
    rw [Int.sub_emod, h1, Int.sub_self]; rfl
  have h3 := two_pow_gt (z - y).natAbs
  obtain ⟨q, hq⟩ := Int.dvd_of_emod_eq_zero h2
  generalize (2 : Int) ^ (z - y).natAbs = P at *
  by_cases hz : z = y
  · exact hz
  · exfalso
    have hq0 : q ≠ 0 := by intro e; subst e; simp at hq; omega
    rcases Int.lt_or_gt_of_ne hq0 with hq1 | hq1
    · have := Int.mul_le_mul_of_nonneg_left (show q ≤ -1 by omega) (show 0 ≤ P by omega)
      omega
    · have := Int.mul_le_mul_of_nonneg_left (show 1 ≤ q by omega) (show 0 ≤ P by omega)
      omega
theorem tb_high {R : Int} {n : Nat} (hn : 1 ≤ n) (h0 : 0 ≤ R) (h1 : R < 2 ^ n) : (tb R (n - 1) = true → 2 ^ (n - 1) ≤ R) ∧ (tb R (n - 1) = false → R < 2 ^ (n - 1)) := by
  have hp := two_pow_pos (n - 1)
  have e : (2 : Int) ^ n = 2 ^ (n - 1) * 2 := by
    conv => lhs; rw [show n = (n - 1) + 1 from by omega]
    rw [Int.pow_succ]
  have hd := Int.emod_add_mul_ediv R (2 ^ (n - 1))
  have hm := Int.emod_lt_of_pos R hp
  have hm0 := Int.emod_nonneg R (b := 2 ^ (n - 1)) (by omega)
  have hq0 : 0 ≤ R / 2 ^ (n - 1) := Int.ediv_nonneg h0 (by omega)
  have hq1 : R / 2 ^ (n - 1) < 2 := Int.ediv_lt_of_lt_mul hp (by omega)
  unfold tb
  generalize R / 2 ^ (n - 1) = q at *
  generalize (2 : Int) ^ (n - 1) = P at *
  rcases (show q = 0 ∨ q = 1 by omega) with rfl | rfl
  · simp; omega
  · simp; omega
/-- A row of bits, the last one standing for all that follow, as a number. -/
theorem sgn_bits {R : Int} {n : Nat} {v : Nat → Bool} (hn : 1 ≤ n) (h0 : 0 ≤ R) (h1 : R < 2 ^ n) (hb : ∀ i, i < n → tb R i = v i) (hc : ∀ i, n - 1 ≤ i → v i = v (n - 1)) (i : Nat) :
    tb (if tb R (n - 1) = true then R - 2 ^ n else R) i = v i := by
  obtain ⟨k1, k2⟩ := tb_high hn h0 h1
  have e : (2 : Int) ^ n = 2 ^ (n - 1) * 2 := by
    conv => lhs; rw [show n = (n - 1) + 1 from by omega]
    rw [Int.pow_succ]
  have hp := two_pow_pos (n - 1)
  have key : ∀ z : Int, z % 2 ^ n = R → -2 ^ (n - 1) ≤ z → z < 2 ^ (n - 1) → tb z i = v i := by
    intro z hz l0 l1
    by_cases hi : i < n
    · rw [← hb i hi, ← hz, tb_mod z hi]
    · rw [hc i (by omega), ← hb (n - 1) (by omega), ← hz, tb_mod z (by omega), tb_sign l0 l1 (by omega), tb_sign l0 l1 (Nat.le_refl _)]
  split
  · rename_i ht
    have := k1 ht
    refine key _ ?_ (by omega) (by omega)
    rw [show R - 2 ^ n = R + 2 ^ n * (-1) from by omega, Int.add_mul_emod_self_left, Int.emod_eq_of_lt h0 h1]
  · rename_i ht
    have := k2 (by simpa using ht)
    exact key _ (Int.emod_eq_of_lt h0 h1) (by omega) (by omega)
theorem tb_cons {d v : Int} {c : Nat} (h0 : 0 ≤ d) (h1 : d < 2 ^ c) (i : Nat) : tb (d + 2 ^ c * v) i = if i < c then tb d i else tb v (i - c) := by
  split
  · rename_i hi
    obtain ⟨m, rfl⟩ : ∃ m, c = i + 1 + m := ⟨c - i - 1, by omega⟩
    exact tb_add d v i m
  · rename_i hi
    have hp := two_pow_pos c
    unfold tb
    have e : (2 : Int) ^ i = 2 ^ c * 2 ^ (i - c) := by rw [← Int.pow_add]; congr 1; omega
    rw [e, ← Int.ediv_ediv_of_nonneg (by omega), Int.add_mul_ediv_left _ _ (by omega), Int.ediv_eq_zero_of_lt h0 h1, Int.zero_add]
end Go.Proofs.YtclokcoimdjaeaaGreatDoor
namespace Go.Proofs.YtclokcoimdjaeaaGreatDoor
open Go.RowKit
attribute [local go_sem ↓] Go.wp_at_zero Go.wp_at_succ
def opBit : BinOp → Bool → Bool → Bool
  | .and, p, q => p && q
  | .or, p, q => p || q
  | .xor, p, q => p ^^ q
  | _, p, q => p && !q
def OpText (o : BinOp) (s : ByteArray) : Prop := (o = .and ∧ s = ⟨#[38]⟩) ∨ (o = .or ∧ s = ⟨#[124]⟩) ∨ (o = .xor ∧ s = ⟨#[94]⟩) ∨ (o = .andNot ∧ s = ⟨#[38, 94]⟩)
def isBit (o : BinOp) : Prop := o = .and ∨ o = .or ∨ o = .xor ∨ o = .andNot
theorem word_bit {o : BinOp} (ho : isBit o) {a b : Int} (ha : 0 ≤ a ∧ a < 4294967296) (hb : 0 ≤ b ∧ b < 4294967296) {i : Nat} (hi : i < 32) : tb (bits o .u32 a b) i = opBit o (tb a i) (tb b i) := by
  obtain ⟨m, rfl⟩ := Int.eq_ofNat_of_zero_le ha.1
  obtain ⟨n, rfl⟩ := Int.eq_ofNat_of_zero_le hb.1
  have h1 : (BitVec.ofInt 32 (m : Int)).toNat = m := by rw [BitVec.ofInt_natCast, BitVec.toNat_ofNat]; exact Nat.mod_eq_of_lt (by omega)
  have h2 : (BitVec.ofInt 32 (n : Int)).toNat = n := by rw [BitVec.ofInt_natCast, BitVec.toNat_ofNat]; exact Nat.mod_eq_of_lt (by omega)
  have hwrap : ∀ X : BitVec 32, IntKind.u32.wrap (X.toNat : Int) = (X.toNat : Int) := by
    intro X
    have := X.isLt
    simp only [IntKind.wrap, IntKind.bits, IntKind.signed]
    simp
    omega
  have g1 : (BitVec.ofInt 32 (m : Int)).getLsbD i = m.testBit i := by rw [← BitVec.testBit_toNat, h1]
  have g2 : (BitVec.ofInt 32 (n : Int)).getLsbD i = n.testBit i := by rw [← BitVec.testBit_toNat, h2]
  rw [tb_nat, tb_nat, ← g1, ← g2]
  rcases ho with rfl | rfl | rfl | rfl
  · show tb (IntKind.u32.wrap ((BitVec.ofInt 32 (m : Int) &&& BitVec.ofInt 32 (n : Int)).toNat : Int)) i = _
    rw [hwrap, tb_nat, BitVec.testBit_toNat, BitVec.getLsbD_and]; rfl
  · show tb (IntKind.u32.wrap ((BitVec.ofInt 32 (m : Int) ||| BitVec.ofInt 32 (n : Int)).toNat : Int)) i = _
    rw [hwrap, tb_nat, BitVec.testBit_toNat, BitVec.getLsbD_or]; rfl
  · show tb (IntKind.u32.wrap ((BitVec.ofInt 32 (m : Int) ^^^ BitVec.ofInt 32 (n : Int)).toNat : Int)) i = _
    rw [hwrap, tb_nat, BitVec.testBit_toNat, BitVec.getLsbD_xor]; rfl
  · show tb (IntKind.u32.wrap ((BitVec.ofInt 32 (m : Int) &&& ~~~ BitVec.ofInt 32 (n : Int)).toNat : Int)) i = _
    rw [hwrap, tb_nat, BitVec.testBit_toNat, BitVec.getLsbD_and, BitVec.getLsbD_not]
    simp [opBit, hi]
theorem zip_bits {o : BinOp} (ho : isBit o) : ∀ {ls rs : List Int}, Words 4294967296 ls → Words 4294967296 rs → ls.length = rs.length → ∀ i, i < 32 * ls.length → tb (val 4294967296 (zipB o ls rs)) i = opBit o (tb (val 4294967296 ls) i) (tb (val 4294967296 rs) i)
  | [], _, _, _, _, i, hi => by simp at hi
  | a :: ls, [], _, _, hl, _, _ => by simp at hl
  | a :: ls, b :: rs, ha, hb, hl, i, hi => by
    have e : (4294967296 : Int) = 2 ^ 32 := by decide
    have hc := bits_rng o a b
    have ih := zip_bits ho ha.tail hb.tail (by simpa using hl)
    show tb (bits o .u32 a b + 4294967296 * val 4294967296 (zipB o ls rs)) i = opBit o (tb (a + 4294967296 * val 4294967296 ls) i) (tb (b + 4294967296 * val 4294967296 rs) i)
    have c1 := tb_cons (d := bits o .u32 a b) (v := val 4294967296 (zipB o ls rs)) (c := 32) hc.1 hc.2 i
    have c2 := tb_cons (d := a) (v := val 4294967296 ls) (c := 32) ha.head.1 ha.head.2 i
    have c3 := tb_cons (d := b) (v := val 4294967296 rs) (c := 32) hb.head.1 hb.head.2 i
    rw [← e] at c1 c2 c3
    rw [c1, c2, c3]
    by_cases h : i < 32
    · rw [if_pos h, if_pos h, if_pos h]
      exact word_bit ho ha.head hb.head h
    · rw [if_neg h, if_neg h, if_neg h]
      exact ih (i - 32) (by simp at hi; omega)
theorem b32 (n : Nat) : (4294967296 : Int) ^ n = 2 ^ (32 * n) := by rw [Int.pow_mul]; rfl
theorem top_bit {ws : List Int} (hw : Words 4294967296 ws) (hl : 0 < ws.length) : tb (val 4294967296 ws) (32 * ws.length - 1) = decide (2147483648 ≤ ws[ws.length - 1]?.getD 0) := by
  have h := val_take_succ 4294967296 ws (ws.length - 1)
  rw [take_all (by omega)] at h
  have h0 := val_nonneg (B := 4294967296) (by decide) (hw.take (ws.length - 1))
  have h1 := val_lt (B := 4294967296) (by decide) (hw.take (ws.length - 1))
  rw [List.length_take, Nat.min_eq_left (by omega), b32] at h1
  rw [h, Int.mul_comm, b32, tb_cons h0 h1, if_neg (by omega), show 32 * ws.length - 1 - 32 * (ws.length - 1) = 31 from by omega]
  obtain ⟨p, hp, hp0, hp1⟩ := hw.get (by decide) (ws.length - 1)
  rw [hp]
  unfold tb
  rw [show (2 : Int) ^ 31 = 2147483648 from by decide, Bool.eq_iff_iff]
  simp only [decide_eq_true_eq]
  omega
theorem signed_eq {ws : List Int} (hw : Words 4294967296 ws) (hl : 0 < ws.length) : signed ws = if tb (val 4294967296 ws) (32 * ws.length - 1) = true then val 4294967296 ws - 2 ^ (32 * ws.length) else val 4294967296 ws := by
  have ht := top_bit hw hl
  have h0 := val_nonneg (B := 4294967296) (by decide) hw
  have h1 := val_lt (B := 4294967296) (by decide) hw
  unfold signed
  rw [b32] at h1 ⊢
  rw [ht]
  simp only [decide_eq_true_eq]
  split
  · rename_i h
    have hp : 0 < val 4294967296 ws := by
      have hh := (tb_high (R := val 4294967296 ws) (n := 32 * ws.length) (by omega) h0 h1).1 (by rw [ht]; simpa using h)
      have := two_pow_pos (32 * ws.length - 1)
      omega
    have e : -val 4294967296 ws = (2 ^ (32 * ws.length) - val 4294967296 ws) + 2 ^ (32 * ws.length) * (-1) := by omega
    rw [e, Int.add_mul_emod_self_left, Int.emod_eq_of_lt (by omega) (by omega)]
    omega
  · rfl
theorem comp_mod {n : Bool} {V : Int} {size : Nat} (h0 : 0 ≤ V) (h1 : V < 4294967296 ^ size) : comp 4294967296 n V size = (if n = true then -V else V) % 2 ^ (32 * size) := by
  unfold comp
  cases n with
  | true => simp [b32]
  | false => simp; rw [← b32, Int.emod_eq_of_lt h0 h1]
theorem comp_bits {o : BinOp} (ho : isBit o) {na nb : Bool} {xs ys ls rs : List Int} {size : Nat} (hx : Words 4294967296 xs) (hy : Words 4294967296 ys) (hl : Words 4294967296 ls) (hr : Words 4294967296 rs) (hs : 0 < size) (l1 : ls.length = size) (l2 : rs.length = size) (h1 : val 4294967296 ls = comp 4294967296 na (val 4294967296 xs) size) (h2 : val 4294967296 rs = comp 4294967296 nb (val 4294967296 ys) size)
    (b1 : val 4294967296 xs < 4294967296 ^ (size - 1)) (b2 : val 4294967296 ys < 4294967296 ^ (size - 1)) (i : Nat) : tb (signed (zipB o ls rs)) i = opBit o (tb (num 4294967296 na xs) i) (tb (num 4294967296 nb ys) i) := by
  have x0 := val_nonneg (B := 4294967296) (by decide) hx
  have y0 := val_nonneg (B := 4294967296) (by decide) hy
  have hm := pow_mono (B := 4294967296) (by decide) (m := size - 1) (n := size) (by omega)
  have zl : (zipB o ls rs).length = size := by rw [zipB_len _ _ _ (by omega), l1]
  have zw := zipB_words o ls rs
  have z0 := val_nonneg (B := 4294967296) (by decide) zw
  have z1 := val_lt (B := 4294967296) (by decide) zw
  rw [zl, b32] at z1
  rw [signed_eq zw (by omega), zl]
  rw [comp_mod x0 (by omega)] at h1
  rw [comp_mod y0 (by omega)] at h2
  have nx : (if na = true then -val 4294967296 xs else val 4294967296 xs) = num 4294967296 na xs := rfl
  have ny : (if nb = true then -val 4294967296 ys else val 4294967296 ys) = num 4294967296 nb ys := rfl
  rw [nx] at h1
  rw [ny] at h2
  refine sgn_bits (v := fun i => opBit o (tb (num 4294967296 na xs) i) (tb (num 4294967296 nb ys) i)) (by omega) z0 z1 (fun j hj => ?_) (fun j hj => ?_) i
  · rw [zip_bits ho hl hr (by omega) j (by omega), h1, h2, tb_mod _ hj, tb_mod _ hj]
  · have sx : -2 ^ (32 * (size - 1)) ≤ num 4294967296 na xs ∧ num 4294967296 na xs < 2 ^ (32 * (size - 1)) := by
      rw [← b32]; cases na <;> simp [num] <;> omega
    have sy : -2 ^ (32 * (size - 1)) ≤ num 4294967296 nb ys ∧ num 4294967296 nb ys < 2 ^ (32 * (size - 1)) := by
      rw [← b32]; cases nb <;> simp [num] <;> omega
    show opBit o _ _ = opBit o _ _
    rw [tb_sign sx.1 sx.2 (by omega), tb_sign sy.1 sy.2 (by omega), tb_sign sx.1 sx.2 (by omega), tb_sign sy.1 sy.2 (by omega)]
theorem trim_bound {xs : List Int} (hx : Words 4294967296 xs) {n : Nat} (h : (trimmed xs).length ≤ n) : val 4294967296 xs < 4294967296 ^ n := by
  have h1 := val_lt (B := 4294967296) (by decide) hx.trimmed
  rw [trimmed_val] at h1
  have := pow_mono (B := 4294967296) (by decide) h
  omega
theorem Bitwise_num {w : World} {u v : Value} {y z : Int} {m n : Nat} (o : BinOp) (s : ByteArray) (hs : OpText o s) (hu : Num w u y m) (hv : Num w v z n) (hm : m ≤ 30) (hn : n ≤ 30) :
    Calls Tryz.prog 162 #[.string s, u, v] w fun e w' => ∃ t r, e = .returned (.tuple #[t, .bool true]) ∧ OutE w' t r 31 ∧ (∀ i, tb r i = opBit o (tb y i) (tb z i)) ∧ Below w.heap.size w w' := by
  obtain ⟨na, x, ca, xs, rfl, ha, rfl, hl⟩ := hu
  obtain ⟨nb, x', cb, ys, rfl, hb, rfl, hl'⟩ := hv
  have key : ∀ (size : Nat), 0 < size → (trimmed xs).length ≤ size - 1 → (trimmed ys).length ≤ size - 1 → isBit o → ∀ e w', BitOut o w w' e na nb xs ys size (max xs.length ys.length + 1) → ∃ t r, e = .returned (.tuple #[t, .bool true]) ∧ OutE w' t r 31 ∧ (∀ i, tb r i = opBit o (tb (num 4294967296 na xs) i) (tb (num 4294967296 nb ys) i)) ∧ Below w.heap.size w w' := by
    rintro size h0 h1 h2 ho e w' ⟨t, ls, rs, he, hlw, hrw, l1, l2, v1, v2, ⟨neg, a, cap, ds, r1, r2, r3, r4, r5⟩, hbel⟩
    exact ⟨t, _, he, ⟨_, neg, a, cap, ds, r1, r2, r3, r4, by omega⟩, comp_bits ho ha.words hb.words hlw hrw h0 l1 l2 v1 v2 (trim_bound ha.words h1) (trim_bound hb.words h2), hbel⟩
  by_cases hxy : (trimmed xs).length < (trimmed ys).length
  · rcases hs with ⟨rfl, rfl⟩ | ⟨rfl, rfl⟩ | ⟨rfl, rfl⟩ | ⟨rfl, rfl⟩
    · exact (Bitwise_and_lt na nb x x' ca cb xs ys w ha hb (by omega) (by omega) hxy).mono (key _ (by omega) (by omega) (by omega) (.inl rfl))
    · exact (Bitwise_or_lt na nb x x' ca cb xs ys w ha hb (by omega) (by omega) hxy).mono (key _ (by omega) (by omega) (by omega) (.inr (.inl rfl)))
    · exact (Bitwise_xor_lt na nb x x' ca cb xs ys w ha hb (by omega) (by omega) hxy).mono (key _ (by omega) (by omega) (by omega) (.inr (.inr (.inl rfl))))
    · exact (Bitwise_not_lt na nb x x' ca cb xs ys w ha hb (by omega) (by omega) hxy).mono (key _ (by omega) (by omega) (by omega) (.inr (.inr (.inr rfl))))
  · rcases hs with ⟨rfl, rfl⟩ | ⟨rfl, rfl⟩ | ⟨rfl, rfl⟩ | ⟨rfl, rfl⟩
    · exact (Bitwise_and_ge na nb x x' ca cb xs ys w ha hb (by omega) (by omega) (by omega)).mono (key _ (by omega) (by omega) (by omega) (.inl rfl))
    · exact (Bitwise_or_ge na nb x x' ca cb xs ys w ha hb (by omega) (by omega) (by omega)).mono (key _ (by omega) (by omega) (by omega) (.inr (.inl rfl)))
    · exact (Bitwise_xor_ge na nb x x' ca cb xs ys w ha hb (by omega) (by omega) (by omega)).mono (key _ (by omega) (by omega) (by omega) (.inr (.inr (.inl rfl))))
    · exact (Bitwise_not_ge na nb x x' ca cb xs ys w ha hb (by omega) (by omega) (by omega)).mono (key _ (by omega) (by omega) (by omega) (.inr (.inr (.inr rfl))))
end Go.Proofs.YtclokcoimdjaeaaGreatDoor
