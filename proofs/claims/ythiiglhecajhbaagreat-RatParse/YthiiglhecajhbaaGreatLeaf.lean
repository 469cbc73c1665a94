/- Contracts of the functions that call few others: what each answers, and that it leaves memory as it was but for new blocks. -/
import Derived.Test.YthiiglhecajhbaaGreatChecked
import Derived.Test.YthiiglhecajhbaaGreatBase
import Derived.WalkKit
import Derived.WalkSpells
import Derived.WalkLawsBesides
import Derived.Outline
import Derived.Deep.QuietTactic
import Derived.BigQuiet
import Derived.OpenShut
import Derived.Lib.BitFns
import Derived.Deep.AppendLies
namespace Go.Proofs.YthiiglhecajhbaaGreat
open Go.RowKit
theorem Tryz.info74 : (Tryz.prog.info? 74).map (fun i => (i.zero, i.size, i.bytes)) = some (some (.int .u32 0), 1, 4) := by kernel_rfl
theorem mk22 (m : Int) (h0 : 0 ≤ m) (h1 : m ≤ 1000000000) (w : World) : (Instr.makeSlice 22 (.int .i64 m) (.int .i64 m)).run Tryz.prog w = .ok (.slice (some ⟨w.heap.size, 0, none⟩) m.toNat m.toNat) (w.alloc (.cells (cellsOf .u32 (zeros m.toNat)) 74)) :=
  run_zeros 22 74 .u32 4 Tryz.underlying22 Tryz.info74 m h0 (by omega) (by omega) w

/-! ### The top bit of a word, through and, or, xor -/
theorem bits_nat {op : BinOp} {f : Nat → Nat → Nat} (a b : Int) (h : op = .and ∧ f = (· &&& ·) ∨ op = .or ∧ f = (· ||| ·) ∨ op = .xor ∧ f = (· ^^^ ·)) (ha : 0 ≤ a) (ha' : a < 4294967296) (hb : 0 ≤ b) (hb' : b < 4294967296) :
    bits op .u32 a b = ((f a.toNat b.toNat : Nat) : Int) := by
  obtain ⟨m, rfl⟩ := Int.eq_ofNat_of_zero_le ha
  obtain ⟨n, rfl⟩ := Int.eq_ofNat_of_zero_le hb
  have h1 : (BitVec.ofInt 32 (m : Int)).toNat = m := by rw [BitVec.ofInt_natCast, BitVec.toNat_ofNat]; exact Nat.mod_eq_of_lt (by omega)
  have h2 : (BitVec.ofInt 32 (n : Int)).toNat = n := by rw [BitVec.ofInt_natCast, BitVec.toNat_ofNat]; exact Nat.mod_eq_of_lt (by omega)
  have hwrap : ∀ z : Nat, z < 2 ^ 32 → IntKind.u32.wrap (z : Int) = (z : Int) := by
    intro z hz
    simp only [IntKind.wrap, IntKind.bits, IntKind.signed]
    simp
    omega
  rcases h with ⟨rfl, rfl⟩ | ⟨rfl, rfl⟩ | ⟨rfl, rfl⟩
  · show IntKind.u32.wrap ((BitVec.ofInt 32 (m : Int) &&& BitVec.ofInt 32 (n : Int)).toNat : Int) = _
    rw [BitVec.toNat_and, h1, h2]
    exact hwrap _ (Nat.and_lt_two_pow _ (by omega))
  · show IntKind.u32.wrap ((BitVec.ofInt 32 (m : Int) ||| BitVec.ofInt 32 (n : Int)).toNat : Int) = _
    rw [BitVec.toNat_or, h1, h2]
    exact hwrap _ (Nat.or_lt_two_pow (by omega) (by omega))
  · show IntKind.u32.wrap ((BitVec.ofInt 32 (m : Int) ^^^ BitVec.ofInt 32 (n : Int)).toNat : Int) = _
    rw [BitVec.toNat_xor, h1, h2]
    exact hwrap _ (Nat.xor_lt_two_pow (by omega) (by omega))
theorem bits_rng (op : BinOp) (a b : Int) : 0 ≤ bits op .u32 a b ∧ bits op .u32 a b < 4294967296 := by
  have h1 := bits_lo_u32 op a b
  have h2 := bits_hi_u32 op a b
  omega
theorem bit_cases (n : Nat) (h : n < 2) : n = 0 ∨ n = 1 := by omega
theorem top_and (a b : Int) (ha : 0 ≤ a) (ha' : a < 4294967296) (hb : 0 ≤ b) (hb' : b < 4294967296) : bits .and .u32 a b / 2147483648 = if 2147483648 ≤ a ∧ 2147483648 ≤ b then 1 else 0 := by
  rw [bits_nat a b (.inl ⟨rfl, rfl⟩) ha ha' hb hb']
  have h : (a.toNat &&& b.toNat) / 2 ^ 31 = (a.toNat / 2 ^ 31) &&& (b.toNat / 2 ^ 31) := by simp only [← Nat.shiftRight_eq_div_pow, Nat.shiftRight_and_distrib]
  have e1 : ((a.toNat &&& b.toNat : Nat) : Int) / 2147483648 = (((a.toNat &&& b.toNat) / 2 ^ 31 : Nat) : Int) := by omega
  simp only [e1, h]
  rcases bit_cases (a.toNat / 2 ^ 31) (by omega) with hm | hm <;> rcases bit_cases (b.toNat / 2 ^ 31) (by omega) with hn | hn <;> rw [hm, hn] <;> simp <;> omega
theorem top_or (a b : Int) (ha : 0 ≤ a) (ha' : a < 4294967296) (hb : 0 ≤ b) (hb' : b < 4294967296) : bits .or .u32 a b / 2147483648 = if 2147483648 ≤ a ∨ 2147483648 ≤ b then 1 else 0 := by
  rw [bits_nat a b (.inr (.inl ⟨rfl, rfl⟩)) ha ha' hb hb']
  have h : (a.toNat ||| b.toNat) / 2 ^ 31 = (a.toNat / 2 ^ 31) ||| (b.toNat / 2 ^ 31) := by simp only [← Nat.shiftRight_eq_div_pow, Nat.shiftRight_or_distrib]
  have e1 : ((a.toNat ||| b.toNat : Nat) : Int) / 2147483648 = (((a.toNat ||| b.toNat) / 2 ^ 31 : Nat) : Int) := by omega
  simp only [e1, h]
  rcases bit_cases (a.toNat / 2 ^ 31) (by omega) with hm | hm <;> rcases bit_cases (b.toNat / 2 ^ 31) (by omega) with hn | hn <;> rw [hm, hn] <;> simp <;> omega
theorem top_xor (a b : Int) (ha : 0 ≤ a) (ha' : a < 4294967296) (hb : 0 ≤ b) (hb' : b < 4294967296) : bits .xor .u32 a b / 2147483648 = if (2147483648 ≤ a) = (2147483648 ≤ b) then 0 else 1 := by
  rw [bits_nat a b (.inr (.inr ⟨rfl, rfl⟩)) ha ha' hb hb']
  have h : (a.toNat ^^^ b.toNat) / 2 ^ 31 = (a.toNat / 2 ^ 31) ^^^ (b.toNat / 2 ^ 31) := by simp only [← Nat.shiftRight_eq_div_pow, Nat.shiftRight_xor_distrib]
  have e1 : ((a.toNat ^^^ b.toNat : Nat) : Int) / 2147483648 = (((a.toNat ^^^ b.toNat) / 2 ^ 31 : Nat) : Int) := by omega
  simp only [e1, h]
  by_cases p : 2147483648 ≤ a <;> by_cases q : 2147483648 ≤ b <;> simp only [p, q] <;> rcases bit_cases (a.toNat / 2 ^ 31) (by omega) with hm | hm <;> rcases bit_cases (b.toNat / 2 ^ 31) (by omega) with hn | hn <;> rw [hm, hn] <;> simp <;> omega
/-- The borrow of a difference. -/
def bor (x y c : Int) : Int := if x - y - c < 0 then 1 else 0
theorem bor_rng (x y c : Int) : 0 ≤ bor x y c ∧ bor x y c ≤ 1 := by unfold bor; split <;> omega
theorem bor_eq (x y c : Int) (hx : 0 ≤ x) (hx' : x < 4294967296) (hy : 0 ≤ y) (hy' : y < 4294967296) (hc0 : 0 ≤ c) (hc : c ≤ 1) :
    bits .or .u32 (bits .and .u32 (bits .xor .u32 IntKind.u32.max x) y) (bits .and .u32 (bits .xor .u32 IntKind.u32.max (bits .xor .u32 x y)) ((x - y - c) % 4294967296)) / 2147483648 = bor x y c := by
  have hm : IntKind.u32.max = 4294967295 := by decide
  have r1 := bits_rng .xor 4294967295 x
  have r2 := bits_rng .xor x y
  have r3 := bits_rng .xor 4294967295 (bits .xor .u32 x y)
  have r4 := bits_rng .and (bits .xor .u32 4294967295 x) y
  have r5 := bits_rng .and (bits .xor .u32 4294967295 (bits .xor .u32 x y)) ((x - y - c) % 4294967296)
  have t1 := top_xor 4294967295 x (by omega) (by omega) hx hx'
  have t2 := top_xor x y hx hx' hy hy'
  have t3 := top_xor 4294967295 (bits .xor .u32 x y) (by omega) (by omega) r2.1 r2.2
  have t4 := top_and (bits .xor .u32 4294967295 x) y r1.1 r1.2 hy hy'
  have t5 := top_and (bits .xor .u32 4294967295 (bits .xor .u32 x y)) ((x - y - c) % 4294967296) r3.1 r3.2 (by omega) (by omega)
  rw [hm, top_or _ _ r4.1 r4.2 r5.1 r5.2]
  unfold bor
  generalize bits .and .u32 (bits .xor .u32 4294967295 x) y = A at *
  generalize bits .and .u32 (bits .xor .u32 4294967295 (bits .xor .u32 x y)) ((x - y - c) % 4294967296) = D at *
  generalize bits .xor .u32 4294967295 (bits .xor .u32 x y) = E at *
  generalize bits .xor .u32 4294967295 x = F at *
  generalize bits .xor .u32 x y = G at *
  by_cases p : 2147483648 ≤ x <;> by_cases q : 2147483648 ≤ y <;> by_cases g : 2147483648 ≤ G <;> by_cases f : 2147483648 ≤ F <;> by_cases e : 2147483648 ≤ E <;> simp [p, q, g, f, e] at t1 t2 t3 t4 t5 <;> (try omega) <;> (split <;> split <;> (try split at t5) <;> omega)

theorem add32 (x y c : Int) (w : World) (hx : 0 ≤ x) (hx' : x < 4294967296) (hy : 0 ≤ y) (hy' : y < 4294967296) (hc0 : 0 ≤ c) (hc : c ≤ 1) :
    Calls Tryz.prog 125 #[.int .u32 x, .int .u32 y, .int .u32 c] w fun e w' => e = .returned (.tuple #[.int .u32 ((x + y + c) % 4294967296), .int .u32 ((x + y + c) / 4294967296)]) ∧ w' = w := by
  go_enter Tryz.func125, Tryz.ntmps125
  go_wp2
  go_ret2
  exact ⟨rfl, rfl⟩
theorem sub32 (x y c : Int) (w : World) (hx : 0 ≤ x) (hx' : x < 4294967296) (hy : 0 ≤ y) (hy' : y < 4294967296) (hc0 : 0 ≤ c) (hc : c ≤ 1) :
    Calls Tryz.prog 126 #[.int .u32 x, .int .u32 y, .int .u32 c] w fun e w' => e = .returned (.tuple #[.int .u32 ((x - y - c) % 4294967296), .int .u32 (bor x y c)]) ∧ w' = w := by
  have H : Hid _ := bor_eq x y c hx hx' hy hy' hc0 hc
  go_enter Tryz.func126, Tryz.ntmps126
  go_wp2
  go_ret2
  rw [← H.out]
  exact ⟨rfl, rfl⟩
theorem tab_size : Lib.len8tab.size = 256 := by decide +kernel
theorem tab_all : ∀ n : Fin 256, (Lib.len8tab.data[n.val]?.getD 0).toNat = Lib.bitLen n.val ∧ Lib.bitLen n.val ≤ 8 := by decide +kernel
theorem tab_at (n : Nat) (h : n < Lib.len8tab.size) : (Lib.len8tab[n]'h).toNat = Lib.bitLen n ∧ Lib.bitLen n ≤ 8 := by
  have h' : n < 256 := by rw [← tab_size]; exact h
  have e := tab_all ⟨n, h'⟩
  have hd : n < Lib.len8tab.data.size := h
  simp only [Array.getElem?_eq_getElem hd, Option.getD_some] at e
  exact e
theorem wrap_small (m : Nat) (h : m ≤ 100) : wrap64 (m : Int) = (m : Int) := by unfold wrap64; omega
set_option maxHeartbeats 1000000 in
set_option maxRecDepth 100000 in
theorem len32 (x : Int) (w : World) (h0 : 0 ≤ x) (h1 : x ≤ 4294967295) :
    Calls Tryz.prog 107 #[.int .u32 x] w fun e w' => e = .returned (.int .i64 (Lib.bitLen x.toNat)) ∧ w' = w := by
  have hsz := tab_size
  by_cases c1 : 65536 ≤ x
  · by_cases c2 : 256 ≤ x / 65536
    · go_enter Tryz.func107, Tryz.ntmps107
      go_wp2
      go_ret
      refine ⟨congrArg Ending.returned (congrArg (Value.int IntKind.i64) ?_), rfl⟩
      obtain ⟨t1, t2⟩ := tab_at (x / 65536 / 256).toNat (by rw [hsz]; omega)
      have s := Lib.bitLen_shift24 x.toNat (by omega) (by omega)
      rw [show (x / 65536 / 256).toNat = x.toNat / 16777216 from by omega] at t2
      rw [t1, show (x / 65536 / 256).toNat = x.toNat / 16777216 from by omega]
      unfold wrap64
      omega
    · go_enter Tryz.func107, Tryz.ntmps107
      go_wp2
      go_ret
      refine ⟨congrArg Ending.returned (congrArg (Value.int IntKind.i64) ?_), rfl⟩
      obtain ⟨t1, t2⟩ := tab_at (x / 65536).toNat (by rw [hsz]; omega)
      have s := Lib.bitLen_shift16 x.toNat (by omega) (by omega)
      rw [show (x / 65536).toNat = x.toNat / 65536 from by omega] at t2
      rw [t1, show (x / 65536).toNat = x.toNat / 65536 from by omega]
      unfold wrap64
      omega
  · by_cases c2 : 256 ≤ x
    · go_enter Tryz.func107, Tryz.ntmps107
      go_wp2
      go_ret
      refine ⟨congrArg Ending.returned (congrArg (Value.int IntKind.i64) ?_), rfl⟩
      obtain ⟨t1, t2⟩ := tab_at (x / 256).toNat (by rw [hsz]; omega)
      have s := Lib.bitLen_shift8 x.toNat (by omega) (by omega)
      rw [show (x / 256).toNat = x.toNat / 256 from by omega] at t2
      rw [t1, show (x / 256).toNat = x.toNat / 256 from by omega]
      unfold wrap64
      omega
    · go_enter Tryz.func107, Tryz.ntmps107
      go_wp2
      go_ret
      refine ⟨congrArg Ending.returned (congrArg (Value.int IntKind.i64) ?_), rfl⟩
      obtain ⟨t1, t2⟩ := tab_at x.toNat (by rw [hsz]; omega)
      rw [t1]
      unfold wrap64
      omega
theorem cmp49 (x y : Int) (w : World) : Calls Tryz.prog 87 #[.int .i64 x, .int .i64 y] w fun e w' => e = .returned (.int .i64 (cmpI x y)) ∧ w' = w := by
  unfold cmpI
  go_enter Tryz.func87, Tryz.ntmps87
  go_wp2_with go_in
  all_goals (go_ret; exact ⟨rfl, rfl⟩)
theorem cmp71 (x y : Int) (w : World) : Calls Tryz.prog 111 #[.int .u32 x, .int .u32 y] w fun e w' => e = .returned (.int .i64 (cmpI x y)) ∧ w' = w := by
  unfold cmpI
  go_enter Tryz.func111, Tryz.ntmps111
  go_wp2_with go_in
  all_goals (go_ret; exact ⟨rfl, rfl⟩)
end Go.Proofs.YthiiglhecajhbaaGreat
