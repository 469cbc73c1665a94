/- Floats by their bits: rank, order. -/
import Derived.Test.YtmpefgemlpnbiaaGreatOps
import Derived.Laws.Externs
import Derived.Laws.FloatArith
import Derived.Laws.Bits64b
import Derived.Test.YtmpefgemlpnbiaaGreatFxm
import Derived.Lib.SmallJoins
namespace Go.Proofs.YtmpefgemlpnbiaaGreat
set_option linter.unusedVariables false
open Go.RowKit
attribute [local go_sem ↓] Go.wp_at_zero Go.wp_at_succ
theorem bits64 (b : Nat) (w : World) : (callFunc 19 #[.float .f64 b]).run Tryz.prog w = .ok (.value (.int .u64 b)) w := by
  rw [run_callFunc_extern (e := Extern.MathFloatBits.float64bits) Tryz.func19 (by kernel_rfl) (by kernel_rfl) (by kernel_rfl) (by kernel_rfl)]
  rfl
theorem from64 (b : Int) (w : World) : (callFunc 21 #[.int .u64 b]).run Tryz.prog w = .ok (.value (.float .f64 b.toNat)) w := by
  rw [run_callFunc_extern (e := Extern.MathFloatBits.float64frombits) Tryz.func21 (by kernel_rfl) (by kernel_rfl) (by kernel_rfl) (by kernel_rfl)]
  rfl
theorem from32 (b : Int) (w : World) : (callFunc 59 #[.int .u32 b]).run Tryz.prog w = .ok (.value (.float .f32 b.toNat)) w := by
  rw [run_callFunc_extern (e := Extern.MathFloatBits.float32frombits) Tryz.func59 (by kernel_rfl) (by kernel_rfl) (by kernel_rfl) (by kernel_rfl)]
  rfl
theorem and_top (b : Nat) (hb : b < 18446744073709551616) : b &&& 9223372036854775808 = if 9223372036854775808 ≤ b then 9223372036854775808 else 0 := by
  have h : (9223372036854775808 : Nat) = 2 ^ 63 := by decide
  have hb' : b < 2 ^ 64 := by simpa using hb
  rw [h]
  apply Nat.eq_of_testBit_eq
  intro i
  rw [Nat.testBit_and, Nat.testBit_two_pow]
  by_cases hi : 63 = i
  · subst hi
    by_cases hc : 2 ^ 63 ≤ b
    · rw [if_pos hc, Nat.testBit_two_pow_self]
      simp
      rw [Nat.testBit_eq_decide_div_mod_eq]
      simp
      omega
    · rw [if_neg hc]
      simp
      exact Nat.testBit_lt_two_pow (by omega)
  · have e : decide (63 = i) = false := by simpa using hi
    rw [e, Bool.and_false]
    split
    · rw [Nat.testBit_two_pow]; simpa using hi
    · simp
theorem or_top (b : Nat) (hb : b < 18446744073709551616) : b ||| 9223372036854775808 = b % 9223372036854775808 + 9223372036854775808 := by
  have h : (9223372036854775808 : Nat) = 2 ^ 63 := by decide
  have hb' : b < 2 ^ 64 := by simpa using hb
  rw [h]
  have h2 : b % 2 ^ 63 + 2 ^ 63 = 2 ^ 63 * 1 + b % 2 ^ 63 := by omega
  rw [h2, Nat.two_pow_add_eq_or_of_lt (Nat.mod_lt _ (by decide))]
  apply Nat.eq_of_testBit_eq
  intro i
  simp only [Nat.testBit_or, Nat.mul_one, Nat.testBit_two_pow, Nat.testBit_mod_two_pow]
  by_cases hi : 63 = i
  · subst hi; simp
  · by_cases hl : i < 63
    · simp [hi, hl]
    · simp [hi, hl]
      exact Nat.testBit_lt_two_pow (Nat.lt_of_lt_of_le hb' (Nat.pow_le_pow_right (by decide) (by omega)))
theorem band_top (b : Nat) (hb : b < 18446744073709551616) : bits .and .u64 (b : Int) 9223372036854775808 = if 9223372036854775808 ≤ b then 9223372036854775808 else 0 := by
  have h := bits_and_u64_nat b 9223372036854775808 hb (by decide)
  rw [and_top b hb] at h
  rw [show ((9223372036854775808 : Nat) : Int) = 9223372036854775808 from rfl] at h
  rw [h]
  split <;> rfl
theorem bor_top (b : Nat) (hb : b < 18446744073709551616) : bits .or .u64 (b : Int) 9223372036854775808 = ((b % 9223372036854775808 + 9223372036854775808 : Nat) : Int) := by
  have h := bits_or_u64_nat b 9223372036854775808 hb (by decide)
  rw [or_top b hb] at h
  exact h
theorem bclr_top (b : Nat) (hb : b < 18446744073709551616) : bits .andNot .u64 (b : Int) 9223372036854775808 = ((b % 9223372036854775808 : Nat) : Int) := by
  have h1 : (BitVec.ofInt 64 (b : Int)).toNat = b := by
    rw [BitVec.ofInt_natCast, BitVec.toNat_ofNat]; exact Nat.mod_eq_of_lt (by omega)
  have h2 : (~~~ (BitVec.ofInt 64 9223372036854775808)).toNat = 2 ^ 63 - 1 := by decide
  show IntKind.u64.wrap ((BitVec.ofInt 64 (b : Int) &&& ~~~ BitVec.ofInt 64 9223372036854775808).toNat : Int) = _
  rw [BitVec.toNat_and, h1, h2, Nat.and_two_pow_sub_one_eq_mod, IntKind.wrap_u64]
  omega
theorem bxor_max (b : Nat) (hb : b < 18446744073709551616) : bits .xor .u64 IntKind.u64.max (b : Int) = ((18446744073709551615 - b : Nat) : Int) := by
  have h1 : (BitVec.ofInt 64 (b : Int)).toNat = b := by
    rw [BitVec.ofInt_natCast, BitVec.toNat_ofNat]; exact Nat.mod_eq_of_lt (by omega)
  have h2 : BitVec.ofInt 64 IntKind.u64.max = BitVec.allOnes 64 := by decide
  show IntKind.u64.wrap ((BitVec.ofInt 64 IntKind.u64.max ^^^ BitVec.ofInt 64 (b : Int)).toNat : Int) = _
  rw [h2, BitVec.allOnes_xor, BitVec.toNat_not, h1, IntKind.wrap_u64]
  omega
/-- A float's place in the order of all. -/
def rankB (b : Nat) : Nat := if 9218868437227405312 < b % 9223372036854775808 then 18446744073709551615 else if 9223372036854775808 ≤ b then 18446744073709551615 - b else b % 9223372036854775808 + 9223372036854775808
theorem isNeg_any (b : Nat) (w : World) (hb : b < 18446744073709551616) : Calls Tryz.prog 67 #[.float .f64 b] w fun e w' => e = .returned (.bool (decide (9223372036854775808 ≤ b))) ∧ w' = w := by
  have hc := bits64 b w
  have h1 := band_top b hb
  by_cases h : 9223372036854775808 ≤ b
  · rw [if_pos h] at h1
    rw [decide_eq_true h]
    clear h
    go_enter Tryz.func67, Tryz.ntmps67
    go_wp2
    go_ret
    exact ⟨rfl, rfl⟩
  · rw [if_neg h] at h1
    rw [decide_eq_false h]
    clear h
    go_enter Tryz.func67, Tryz.ntmps67
    go_wp2
    go_ret
    exact ⟨rfl, rfl⟩
theorem rankB_lt (b : Nat) (hb : b < 18446744073709551616) : rankB b < 18446744073709551616 := by
  unfold rankB
  split
  · decide
  · split <;> omega
set_option maxRecDepth 20000 in
theorem rank_any (b : Nat) (w : World) (hb : b < 18446744073709551616) : Calls Tryz.prog 71 #[.float .f64 b] w fun e w' => e = .returned (.int .u64 (rankB b)) ∧ w' = w := by
  have hc := bits64 b w
  have h1 := band_top b hb
  have h2 := bor_top b hb
  have h3 := bclr_top b hb
  have h4 := bxor_max b hb
  unfold rankB
  generalize hm : b % 9223372036854775808 = m at *
  have hml : m < 9223372036854775808 := by omega
  replace hm : Hid _ := hm
  by_cases h0 : 9218868437227405312 < m
  · rw [if_pos h0]
    have d0 : decide ((m : Int) > 9218868437227405312) = true := by simpa using (by omega : (9218868437227405312 : Int) < m)
    go_enter Tryz.func71, Tryz.ntmps71
    go_wp2
    go_ret
    exact ⟨rfl, rfl⟩
  · rw [if_neg h0]
    by_cases h : 9223372036854775808 ≤ b
    · rw [if_pos h] at h1 ⊢
      go_enter Tryz.func71, Tryz.ntmps71
      go_wp2
      go_ret
      exact ⟨rfl, rfl⟩
    · rw [if_neg h] at h1 ⊢
      go_enter Tryz.func71, Tryz.ntmps71
      go_wp2
      go_ret
      exact ⟨by simp, rfl⟩
theorem nat_beq (x y : Nat) : ((x : Int) == (y : Int)) = decide (x = y) := by by_cases h : x = y <;> simp [h] <;> omega
theorem nat_blt (x y : Nat) : decide ((x : Int) < (y : Int)) = decide (x < y) := by by_cases h : x < y <;> simp [h] <;> omega
theorem same_any (a b : Nat) (w : World) (ha : a < 18446744073709551616) (hb : b < 18446744073709551616) : Calls Tryz.prog 33 #[.float .f64 a, .float .f64 b] w fun e w' => e = .returned (.bool (decide (rankB a = rankB b))) ∧ w' = w := by
  have k1 : Hid _ := rank_any a w ha
  have k2 : Hid _ := rank_any b w hb
  generalize hx : rankB a = x at *
  generalize hy : rankB b = y at *
  clear hx hy
  go_enter Tryz.func33, Tryz.ntmps33
  go_wp2_with fail
  refine Calls.mono k1.out ?_
  rintro e w1 ⟨rfl, rfl⟩
  go_wp2_with fail
  refine Calls.mono k2.out ?_
  rintro e w2 ⟨rfl, rfl⟩
  go_wp2
  go_ret
  exact ⟨by rw [← nat_beq]; rfl, rfl⟩
theorem lessF_any (a b : Nat) (w : World) (ha : a < 18446744073709551616) (hb : b < 18446744073709551616) : Calls Tryz.prog 35 #[.float .f64 a, .float .f64 b] w fun e w' => e = .returned (.bool (decide (rankB a < rankB b))) ∧ w' = w := by
  have k1 : Hid _ := rank_any a w ha
  have k2 : Hid _ := rank_any b w hb
  generalize hx : rankB a = x at *
  generalize hy : rankB b = y at *
  clear hx hy
  go_enter Tryz.func35, Tryz.ntmps35
  go_wp2_with fail
  refine Calls.mono k1.out ?_
  rintro e w1 ⟨rfl, rfl⟩
  go_wp2_with fail
  refine Calls.mono k2.out ?_
  rintro e w2 ⟨rfl, rfl⟩
  go_wp2
  go_ret
  exact ⟨by rw [← nat_blt]; rfl, rfl⟩
end Go.Proofs.YtmpefgemlpnbiaaGreat
namespace Go.Proofs.YtmpefgemlpnbiaaGreat
set_option linter.unusedVariables false
open Go.RowKit
attribute [local go_sem ↓] Go.wp_at_zero Go.wp_at_succ
theorem boxes_shift (w : World) (n1 : Bool) (a1 : Option Addr) (l1 c1 : Nat) : ∃ W, W = (w.alloc (.cells #[.bool n1, .slice a1 l1 c1] 24)).alloc (.cells #[.bool false, .slice none 0 0] 24) ∧ Below w.heap.size w W ∧
    (W.cell? ⟨w.heap.size, 0, none⟩ = some (.bool n1) ∧ W.cell? ⟨w.heap.size, 1, none⟩ = some (.slice a1 l1 c1)) ∧ Box2 W (w.heap.size + 1) := by
  refine ⟨_, rfl, ((Below.refl _ _).alloc (Nat.le_refl _) _).alloc (by simp) _, ⟨?_, ?_⟩, ?n0⟩
  case n0 =>
    have h := Box2.new (w.alloc (.cells #[.bool n1, .slice a1 l1 c1] 24)) false none 0 0 24 (by decide)
    rw [show (w.alloc (.cells #[.bool n1, .slice a1 l1 c1] 24)).heap.size = w.heap.size + 1 from by simp] at h
    exact h
  all_goals simp [go_sem, World.cell?_alloc_past]
theorem getDx {a : Array Value} {t : Nat} {v : Value} (h : a.getD t undef = v) : a[t]?.getD undef = v := by rwa [Array.getD_eq_getD_getElem?] at h
section
variable {ops : Array Oper} {Q : Exit → Act → World → Prop} {V : Nat → Value → World → Prop} {S : List Nat} {N : Nat} {w : World}
theorem al24 {w : World} {o : Oper} {b : Act} {K : Act → World → Prop} (ho : o.op = .alloc 24) (h : K (b.put o.dst (.pointer (some ⟨w.heap.size, 0, none⟩))) (w.alloc (.cells #[.bool false, .slice none 0 0] 24))) : o.wp Tryz.prog b w K Q := by
  obtain ⟨dst, op, type, pos, after, guard⟩ := o
  dsimp only at ho
  subst ho
  unfold Oper.wp
  go_simp
  exact h
theorem step_new24 {o : Oper} (d : Nat) (ho : o.op = .alloc 24) (hd : o.dst = some d) (hg : o.guard = none) (hv : ∀ v w', Ptr2 w.heap.size S v w' → V d v w') : NewStep Tryz.prog ops Q V S N w o := by
  intro b w' hs hB hl K hK
  have hw : Region.wanted o (yielded ops b.tmps) = true := by simp [Region.wanted, hg]
  rw [if_pos hw]
  exact al24 ho (hK _ _ _ rfl (Nat.le_refl _) ((Below.refl _ _).alloc (Nat.le_refl _) _) (dst_eq hd (hv _ _ ⟨_, rfl, Box2.new _ _ _ _ _ _ (by decide), .inl hB.size⟩)))
end
theorem run_append_fresh {P : Program} (w : World) (t ty T : TypeId) (k : IntKind) (by' : Nat) (B : Int) (i : TypeInfo) (ht : P.underlying t = some (.slice T)) (hi : P.info? T = some i) (hz : i.zero = some (.int k 0)) (hsize : i.size = 1) (hby : i.bytes = by')
    (b : Addr) (n : Nat) (zs : List Int) (hx : Row w k B (some b) n zs) (hn : zs.length = n) (ad : Addr) (m c : Nat) (ys : List Int) (hy : Row w k B (some ad) c ys) (hm : ys.length = m) (hp : 0 < m) (hlen : n + m ≤ 100000000) (hb8 : by' ≤ 8) :
    ∃ a' cap' w', (Builtin.append_ #[t, t] ty #[.slice (some b) n n, .slice (some ad) m c]).run P w = .ok (.slice a' (n + m) cap') w' ∧ Row w' k B a' cap' (zs ++ ys) ∧ Below w.heap.size w w' := by
  subst hn
  subst hm
  obtain ⟨v', w', hr, ho, hgr⟩ := run_append_arg_grows (P := P) w t ty T i (.int k 0) 1 by' ht hi hz hsize hby (by rfl) (by omega) b zs.length zs.length (zs.map (Value.int k)) (by simp) (news_of_row hx) ad ys.length c (ys.map (Value.int k)) (by simp) (news_of_row hy) (by omega) (by unfold maxLen; omega) (by
      have h1 : (zs.length + ys.length) * by' ≤ (zs.length + ys.length) * 8 := Nat.mul_le_mul_left _ hb8
      omega)
  obtain ⟨g, cap, rfl⟩ := Go.Joins.ownsRow_form ho (by omega)
  exact ⟨_, cap, w', hr, (Blk.of_owns (base := w.heap.size) (n := zs.length + ys.length) (by rw [List.map_append]; exact ho)).row (hx.words.append hy.words), (Below.refl _ w).grown hgr (Nat.le_refl _) (by intro g hg; cases hg)⟩
theorem Row.but {w w' : World} {k : IntKind} {B : Int} {a : Option Addr} {cap : Nat} {ds : List Int} {S : List Nat} (hr : Row w k B a cap ds) (hW : BelowBut S w w') (hS : ∀ k, k ∈ S → NoInt w k) : Row w' k B a cap ds := by
  refine ⟨hr.le, hr.max, hr.nil, fun x hx i hi => ?_, hr.words⟩
  refine hW.cell (hr.cell x hx i hi) ?_
  rw [add_block]
  intro hs
  subst hx
  exact (hS _ hs).apart hr (by intro e; subst e; simp at hi) rfl
/-- A slice of so many digits. -/
def Digs (w : World) (v : Value) (n : Nat) (ds : List Int) : Prop := ∃ a cap, v = .slice a n cap ∧ ds.length = n ∧ Row w .u32 4294967296 a cap ds
theorem Digs.next {w w' : World} {v : Value} {n : Nat} {ds : List Int} (h : Digs w v n ds) (hb : Below w.heap.size w w') : Digs w' v n ds := by
  obtain ⟨a, cap, h1, h2, h3⟩ := h
  exact ⟨a, cap, h1, h2, h3.next hb⟩
theorem Digs.chg {w w' : World} {b : Nat} {v : Value} {n : Nat} {ds : List Int} (h : Digs w v n ds) (hc : Chg b w w') (hb : NoInt w b) : Digs w' v n ds := by
  obtain ⟨a, cap, h1, h2, h3⟩ := h
  exact ⟨a, cap, h1, h2, h3.chg hc hb⟩
def Noughts (w : World) (v : Value) (n : Nat) : Prop := ∃ g, v = .slice (some ⟨g, 0, none⟩) n n ∧ Row w .u32 4294967296 (some ⟨g, 0, none⟩) n (zeros n)
theorem Noughts.next {w w' : World} {v : Value} {n : Nat} (h : Noughts w v n) (hb : Below w.heap.size w w') : Noughts w' v n := by
  obtain ⟨g, h1, h3⟩ := h
  exact ⟨g, h1, h3.next hb⟩
theorem Noughts.chg {w w' : World} {b : Nat} {v : Value} {n : Nat} (h : Noughts w v n) (hc : Chg b w w') (hb : NoInt w b) : Noughts w' v n := by
  obtain ⟨g, h1, h3⟩ := h
  exact ⟨g, h1, h3.chg hc hb⟩
def sh1V (b0 c m base : Nat) (A : Value) (P z : Int) (t : Nat) (v : Value) (w : World) : Prop := match t with
  | 1 => v = .int .i64 (c : Nat)
  | 2 => v = .pointer (some ⟨b0, 0, none⟩)
  | 5 => Ptr2 base [] v w
  | 6 => v = A
  | 7 => v = .int .i64 (c : Nat)
  | 8 => v = .int .i64 ((c : Int).tmod 32)
  | 9 => v = .int .i64 P
  | 10 => Num w v P 2
  | 11 => Num w v (z * P) (m + 2)
  | _ => True
theorem sh1V_next {b0 c m base : Nat} {A : Value} {P z : Int} (t : Nat) (v : Value) (w w' : World) (hb : Below w.heap.size w w') (h : sh1V b0 c m base A P z t v w) : sh1V b0 c m base A P z t v w' := by
  unfold sh1V at h ⊢
  split at h <;> first | exact h | exact Num.next h hb | exact Frac.next h hb | exact OutE.next h hb | exact LowE.next h hb | exact Ptr2.next h hb | exact ⟨h.1, h.2.next hb⟩
theorem sh1V_chg {b0 c m base : Nat} {A : Value} {P z : Int} (t : Nat) (v : Value) (w w' : World) (b : Nat) (hc : Chg b w w') (hb : Box2 w b) (hb' : Box2 w' b) (h : sh1V b0 c m base A P z t v w) : sh1V b0 c m base A P z t v w' := by
  unfold sh1V at h ⊢
  split at h <;> first | exact h | exact Num.chg h hc hb.noint | exact Frac.chg h hc hb.noint | exact OutE.chg h hc hb.noint | exact LowE.chg h hc hb.noint | exact Ptr2.chg h hc (fun _ => hb') | exact ⟨h.1, h.2.chg hc hb'⟩
def sh1C (b0 c m base : Nat) (A : Value) (P z : Int) (j b : Nat) (w : World) : Prop := match j with
  | 7 => Holds2 w b (fun v => Num w v (z * P) (m + 2))
  | _ => True
theorem sh1C_next {b0 c m base : Nat} {A : Value} {P z : Int} (j b : Nat) (w w' : World) (hb : Below w.heap.size w w') (_ : b < w.heap.size) (h : sh1C b0 c m base A P z j b w) : sh1C b0 c m base A P z j b w' := by
  unfold sh1C at h ⊢
  split at h <;> first | exact h | exact Holds2.next h hb (fun v k => k.next hb)
theorem sh1C_chg {b0 c m base : Nat} {A : Value} {P z : Int} (j b b' : Nat) (w w' : World) (hc : Chg b' w w') (hb : Box2 w b') (_ : Box2 w' b') (hne : b ≠ b') (h : sh1C b0 c m base A P z j b w) : sh1C b0 c m base A P z j b w' := by
  unfold sh1C at h ⊢
  split at h <;> first | exact h | exact Holds2.chg h hc hne (fun v k => k.chg hc hb.noint)
def sh2V (b4 g c q K : Nat) (n3 : Bool) (D : Value) (ds : List Int) (Z : Int) (t : Nat) (v : Value) (w : World) : Prop := match t with
  | 1 => v = .int .i64 (c : Nat)
  | 4 => v = .pointer (some ⟨b4, 0, none⟩) ∧ Box2 w b4
  | 5 => v = .pointer (some ⟨g, 0, none⟩)
  | 12 => v = .pointer (some ⟨g, 0, none⟩)
  | 13 => v = .bool n3
  | 14 => v = .int .i64 (c : Nat)
  | 15 => v = .int .i64 (q : Nat)
  | 16 => Noughts w v q
  | 17 => v = .pointer (some ⟨g, 1, none⟩)
  | 18 => v = D
  | 19 => Digs w v (q + ds.length) (zeros q ++ ds)
  | 20 => Num w v Z K
  | _ => True
theorem sh2V_next {b4 g c q K : Nat} {n3 : Bool} {D : Value} {ds : List Int} {Z : Int} (t : Nat) (v : Value) (w w' : World) (hb : Below w.heap.size w w') (h : sh2V b4 g c q K n3 D ds Z t v w) : sh2V b4 g c q K n3 D ds Z t v w' := by
  unfold sh2V at h ⊢
  split at h <;> first | exact h | exact Num.next h hb | exact Digs.next h hb | exact Noughts.next h hb | exact Ptr2.next h hb | exact ⟨h.1, h.2.next hb⟩
theorem sh2V_chg {b4 g c q K : Nat} {n3 : Bool} {D : Value} {ds : List Int} {Z : Int} (t : Nat) (v : Value) (w w' : World) (b : Nat) (hc : Chg b w w') (hb : Box2 w b) (hb' : Box2 w' b) (h : sh2V b4 g c q K n3 D ds Z t v w) : sh2V b4 g c q K n3 D ds Z t v w' := by
  unfold sh2V at h ⊢
  split at h <;> first | exact h | exact Num.chg h hc hb.noint | exact Digs.chg h hc hb.noint | exact Noughts.chg h hc hb.noint | exact Ptr2.chg h hc (fun _ => hb') | exact ⟨h.1, h.2.chg hc hb'⟩
def sh2C (b4 g c q K : Nat) (n3 : Bool) (D : Value) (ds : List Int) (Z : Int) (j b : Nat) (w : World) : Prop := match j with
  | 9 => Holds2 w b (fun v => Num w v Z K)
  | _ => True
theorem sh2C_next {b4 g c q K : Nat} {n3 : Bool} {D : Value} {ds : List Int} {Z : Int} (j b : Nat) (w w' : World) (hb : Below w.heap.size w w') (_ : b < w.heap.size) (h : sh2C b4 g c q K n3 D ds Z j b w) : sh2C b4 g c q K n3 D ds Z j b w' := by
  unfold sh2C at h ⊢
  split at h <;> first | exact h | exact Holds2.next h hb (fun v k => k.next hb)
theorem sh2C_chg {b4 g c q K : Nat} {n3 : Bool} {D : Value} {ds : List Int} {Z : Int} (j b b' : Nat) (w w' : World) (hc : Chg b' w w') (hb : Box2 w b') (_ : Box2 w' b') (hne : b ≠ b') (h : sh2C b4 g c q K n3 D ds Z j b w) : sh2C b4 g c q K n3 D ds Z j b w' := by
  unfold sh2C at h ⊢
  split at h <;> first | exact h | exact Holds2.chg h hc hne (fun v k => k.chg hc hb.noint)
theorem noughts_row (w : World) (n : Nat) (h : n ≤ 100000000) : Row (w.alloc (.cells (cellsOf .u32 (zeros n)) 47)) .u32 4294967296 (some ⟨w.heap.size, 0, none⟩) n (zeros n) := by
  have hb := Blk.new w .u32 47 (zeros n) (by rw [zeros_len]; unfold maxLen; omega)
  rw [zeros_len] at hb
  exact hb.row (zeros_words (by decide) n)
theorem app_step {w : World} {n : Nat} {a3 : Option Addr} {c3 : Nat} {ds : List Int} {o : Oper} {b : Act} {K : Act → World → Prop} {Q : Exit → Act → World → Prop} {s t : Nat}
    (h16 : Noughts w (b.tmps.getD s undef) n) (h18 : b.tmps.getD t undef = .slice a3 ds.length c3) (hr : Row w .u32 4294967296 a3 c3 ds) (hn : n ≤ 1000000) (hd : ds.length ≤ 1000000)
    (ho : o.op = .call { callee := .builtin .append, args := #[.tmp s, .tmp t], argTypes := #[22, 22] })
    (hK : ∀ v w', Digs w' v (n + ds.length) (zeros n ++ ds) → Below w.heap.size w w' → K (b.put o.dst v) w') : o.wp Tryz.prog b w K Q := by
  obtain ⟨i0, hi, hz0, hz1, hz2⟩ := info_parts Tryz.info47
  obtain ⟨g, h16, hg⟩ := h16
  have e16 : b.eval (.tmp s) = .slice (some ⟨g, 0, none⟩) n n := h16
  have e18 : b.eval (.tmp t) = .slice a3 ds.length c3 := h18
  by_cases hx : ds = []
  · subst hx
    have hrun : (Builtin.append_ #[22, 22] o.type #[.slice (some ⟨g, 0, none⟩) n n, .slice a3 0 c3]).run Tryz.prog w = .ok (.slice (some ⟨g, 0, none⟩) n n) w := by
      cases a3 <;> simp [Builtin.append_, run_underlying Tryz.underlying22, sizeOf, typeInfo, hi, Builtin.lenOf, Builtin.firstCells, loadCells, loadCellsFrom, storeCells]
    refine Lib.wp_append_run w (.tmp s) (.tmp t) 22 22 ho _ _ e16 e18 _ _ hrun (hK _ _ ⟨_, _, rfl, by simp [zeros_len], by simpa using hg⟩ (Below.refl _ _))
  · have hpos : 0 < ds.length := List.length_pos_iff.2 hx
    obtain ⟨ad, rfl⟩ := hr.some_of hpos
    obtain ⟨a', cap', w', hrun, hrow, hb⟩ := run_append_fresh (P := Tryz.prog) w 22 o.type 47 .u32 4 4294967296 i0 Tryz.underlying22 hi hz0 hz1 hz2 ⟨g, 0, none⟩ n (zeros n) hg (zeros_len n) ad ds.length c3 ds hr rfl hpos (by omega) (by omega)
    exact Lib.wp_append_run w (.tmp s) (.tmp t) 22 22 ho _ _ e16 e18 _ _ hrun (hK _ _ ⟨_, _, rfl, by simp [zeros_len], hrow⟩ hb)
set_option maxRecDepth 20000 in
set_option maxHeartbeats 4000000 in
theorem shift_num {w : World} {u : Value} {z : Int} {m c : Nat} (hu : Num w u z m) (hm : m ≤ 1000) (hc : c ≤ 4000) :
    Calls Tryz.prog 106 #[u, .int .i64 c] w fun e w' => ∃ t, e = .returned t ∧ Num w' t (z * 2 ^ c) (m + 2 + c / 32) ∧ Below w.heap.size w w' := by
  obtain ⟨n1, a1, l1, c1, rfl⟩ := hu.form
  obtain ⟨W, hW, hbW, ⟨e0, e1⟩, x0⟩ := boxes_shift w n1 a1 l1 c1
  replace hu := hu.next hbW
  have hD0 : Below W.heap.size W W.drew := (Below.refl _ _).drew
  obtain ⟨P, hP⟩ : ∃ P : Int, P = 2 ^ (c % 32) := ⟨_, rfl⟩
  have hP0 : 0 < P := by rw [hP]; exact Int.pow_pos (by decide)
  have hP1 : P ≤ 4294967296 := by
    rw [hP]
    have : (2 : Int) ^ (c % 32) ≤ 2 ^ 32 := pow_mono (by decide) (by omega)
    simpa using this
  have hs : Op.shift .shl .i64 1 .i64 ((c : Int).tmod 32) = pure (.int .i64 P) := by
    have ht : (c : Int).tmod 32 = ((c % 32 : Nat) : Int) := by rw [Int.tmod_eq_emod_of_nonneg (by omega)]; omega
    rw [ht, shift_shl .i64 .i64 1 _ (by omega) (by show _ ≤ ((64 : Nat) : Int); omega), Int.toNat_natCast, Int.one_mul, ← hP, IntKind.wrap_i64]
    congr 2
    omega
  have kO : Hid (∀ w', Below W.heap.size W w' → Calls Tryz.prog 46 #[.int .i64 P] w' fun e w'' => ∃ t, e = .returned t ∧ Num w'' t P 2 ∧ Below w'.heap.size w' w'') := by
    intro w' h
    refine (Of_any P w' (by omega) (by omega)).mono ?_
    rintro e w'' ⟨t, h1, h2, h3⟩
    exact ⟨t, h1, h2.num, h3⟩
  have hPh : Hid (P = 2 ^ (c % 32)) := hP
  clear hP
  rw [show (z * 2 ^ c : Int) = z * 2 ^ (c % 32) * 4294967296 ^ (c / 32) from by
    rw [Int.mul_assoc, show (4294967296 : Int) = 2 ^ 32 from by decide, ← Int.pow_mul, ← Int.pow_add]; congr 2; omega]
  rw [← hPh.out]
  go_enter Tryz.func106, Tryz.ntmps106
  go_upto_region 1 with fail
  rw [← hW]
  clear hW
  go_cut [5] from 6 (fun p wc => ∃ g, p = .pointer (some ⟨g, 0, none⟩) ∧ Holds2 wc g (fun v => Num wc v (z * P) (m + 2)) ∧ Below W.heap.size W wc ∧ g ≠ w.heap.size + 1)
  case first =>
    rename_i J K' hJ hK'
    have hu0 := hu
    have lw : ∀ {w' : World}, BelowBut [] W w' → Below W.heap.size W w' := fun hW => hW.below (Nat.le_refl _) (by intro k hk; cases hk)
    refine wp_region_boxes (sh1V w.heap.size c m W.heap.size (.agg #[.bool n1, .slice a1 l1 c1]) P z) Box2 (sh1C w.heap.size c m W.heap.size (.agg #[.bool n1, .slice a1 l1 c1]) P z) [1, 2] [5] [] [(7, 5)] 21 (by kernel_rfl) (by kernel_rfl) rfl sh1V_next sh1V_chg ?hA sh1C_next sh1C_chg ?hstart ?hdis (StepsFrom.all ?hstep) ?hend
    case hA =>
      intro s v w' hs hv
      have hs' : s = 5 := by simpa using hs
      subst hs'
      obtain ⟨b, h1, h2, h3⟩ := hv
      exact ⟨b, h1, h2, h3, h2.noint.lt⟩
    case hstart =>
      intro t ht
      simp only [List.mem_cons, List.not_mem_nil, or_false] at ht
      rcases ht with rfl | rfl <;> rfl
    case hdis =>
      intro s t hs ht hne _ _
      have hs' : s = 5 := by simpa using hs
      have ht' : t = 5 := by simpa using ht
      exact absurd (hs'.trans ht'.symm) hne
    case hstep =>
      refine ⟨?s0, ?s1, ?s2, ?s3, ?s4, ?s5, ?s6, ?s7, trivial⟩
      case s0 => exact plain_at (plain_of (guard_none rfl) fun b w' _ hW hl K hK => ld24 (hW.cell e0 (by simp; try omega)) (hW.cell e1 (by simp; try omega)) 2 rfl (look hl 2 (by kernel_rfl)) (hK _ _ (Below.refl _ _) (dst_eq rfl rfl))) (dst_eq rfl rfl) rfl
      case s1 => exact plain_at (pl_move 1 7 (.inl rfl) rfl (guard_none rfl) (by kernel_rfl) (fun v w h => h)) (dst_eq rfl rfl) rfl
      case s2 => exact plain_at (plain_of (guard_none rfl) fun b w' hsz hW hl K hK => by clear hsz; have e7 : b.tmps[7]?.getD undef = .int .i64 (c : Nat) := getDx (look hl 7 (by kernel_rfl)); unfold Oper.wp; go_simp; exact hK _ _ (Below.refl _ _) (dst_eq rfl rfl)) (dst_eq rfl rfl) rfl
      case s3 => exact plain_at (plain_of (guard_none rfl) fun b w' hsz hW hl K hK => by clear hsz; have e8 : b.tmps[8]?.getD undef = .int .i64 ((c : Int).tmod 32) := getDx (look hl 8 (by kernel_rfl)); unfold Oper.wp; go_simp; exact hK _ _ (Below.refl _ _) (dst_eq rfl rfl)) (dst_eq rfl rfl) rfl
      case s4 => exact plain_at (pl_call1 46 9 10 _ (by kernel_rfl) rfl rfl (guard_none rfl) (by kernel_rfl) (fun v w' hW hv => by subst hv; exact kO.out _ (lw hW))) (dst_eq rfl rfl) rfl
      case s5 => exact plain_at (pl_call2 119 6 10 11 _ (by kernel_rfl) rfl rfl (guard_none rfl) (by kernel_rfl) (by kernel_rfl) (fun u v w' hW hu hv => by subst hu; exact (Mul_num (hu0.next (lw hW)) hv (by omega) (by decide)).mono fun e w'' h => by obtain ⟨t, h1, h2, h3⟩ := h; exact ⟨t, h1, h2.num, h3⟩)) (dst_eq rfl rfl) rfl
      case s6 => exact new_at (step_new24 5 rfl rfl rfl (fun v w h => h)) rfl rfl rfl
      case s7 => exact put_at (step_put2 7 5 11 rfl rfl rfl (by kernel_rfl) (by kernel_rfl) ⟨fun v w h => Num.form h, fun g w' w'' m a l c hv hc hb r0 r1 => ⟨m, a, l, c, r0, r1, Num.chg hv hc hb.noint⟩⟩) rfl rfl (by kernel_rfl)
    case hend =>
      rintro ⟨tm, df⟩ w' hs hd hW hv hdis hC hfr
      obtain ⟨gb, eb, _, hge⟩ := hv 5 (.inr ⟨6, _, rfl, rfl⟩)
      have hgne : gb ≠ w.heap.size + 1 := by have := x0.noint.lt; rcases hge with h | h; · omega
                                             · cases h
      have cb := hC 7 5 (by simp) (by decide) gb eb
      obtain ⟨xs', htm, hxs⟩ := frame_mixed hfr hs
      have xb : xs'.getD 5 undef = .pointer (some ⟨gb, 0, none⟩) := (hxs 5).trans eb
      have hWb := lw hW
      clear hxs hv hdis hC hfr eb
      subst htm
      obtain rfl := hd
      refine hK' _ _ (Met.intro (hJ _ _ ?_))
      (repeat apply Exists.intro)
      refine ⟨?rel, rfl⟩
      case rel => exact ⟨gb, xb, cb, hWb, hgne⟩
  case rest =>
    obtain ⟨g, rfl, ⟨n3, a3, l3, c3, q0, q1, hM⟩, hb3, hgne⟩ := hcut
    replace x0 := x0.next hb3
    have hB := bthen hbW hb3
    clear hu e0 e1 hs hP0 hP1 kO hD0 hbW hb3
    generalize wc = W3 at *
    obtain ⟨neg, ad, cap, ds, hv, hr, hnum, hl⟩ := hM
    simp at hv
    obtain ⟨rfl, rfl, rfl, rfl⟩ := hv
    have hq : IntKind.i64.wrap ((c : Int) / 32) = ((c / 32 : Nat) : Int) := by rw [IntKind.wrap_i64]; omega
    have hq2 : c / 32 ≤ 125 := by omega
    generalize hqe : c / 32 = q at *
    replace hq : Hid _ := hq
    replace hqe : Hid _ := hqe
    have hx0 := x0.noint.lt
    have hgl : g ≠ w.heap.size + 1 := hgne
    have hS : ∀ k, k ∈ [w.heap.size + 1] → NoInt W3 k := by
      intro k hk
      simp only [List.mem_cons, List.not_mem_nil, or_false] at hk
      subst hk
      exact x0.noint
    have hfin : ∀ (w' : World) (a : Option Addr) (cap n : Nat), Row w' .u32 4294967296 a cap (zeros (q) ++ ds) → (zeros (q) ++ ds).length = n → Num w' (.agg #[.bool n3, .slice a n cap]) (z * P * 4294967296 ^ (q)) (m + 2 + q) := by
      intro w' a cap n hr' hn
      subst hn
      refine ⟨n3, a, cap, _, rfl, hr', ?_, by rw [List.length_append, zeros_len]; omega⟩
      rw [← hnum]
      have hv : val 4294967296 (zeros (q) ++ ds) = val 4294967296 ds * 4294967296 ^ (q) := by
        rw [val_append, zeros_val, zeros_len, Int.zero_add, Int.mul_comm]
      cases n3 <;> simp only [num, hv, if_true, if_false, Bool.false_eq_true, Int.neg_mul]
    replace hfin : Hid _ := hfin
    have hfin := fun w' a cap n h1 h2 => hfin.out w' a cap n h1 h2
    go_upto_region 2 with fail
    refine wp_region_boxes (sh2V (w.heap.size + 1) g c q (m + 2 + q) n3 (.slice a3 ds.length c3) ds (z * P * 4294967296 ^ (q))) Box2 (sh2C (w.heap.size + 1) g c q (m + 2 + q) n3 (.slice a3 ds.length c3) ds (z * P * 4294967296 ^ (q))) [1, 4, 5] [4] [w.heap.size + 1] [(9, 4)] 21 (by kernel_rfl) (by kernel_rfl) rfl sh2V_next sh2V_chg ?hA sh2C_next sh2C_chg ?hstart ?hdis (StepsFrom.all ?hstep) ?hend
    case hA =>
      intro s v w' hs hv
      have hs' : s = 4 := by simpa using hs
      subst hs'
      exact ⟨_, hv.1, hv.2, .inr (by simp), hv.2.noint.lt⟩
    case hstart =>
      intro t ht
      have hD0 : Below W3.heap.size W3 W3.drew := (Below.refl _ _).drew
      simp only [List.mem_cons, List.not_mem_nil, or_false] at ht
      rcases ht with rfl | rfl | rfl
      · rfl
      · exact ⟨rfl, x0.next hD0⟩
      · rfl
    case hdis =>
      intro s t hs ht hne _ _
      have hs' : s = 4 := by simpa using hs
      have ht' : t = 4 := by simpa using ht
      exact absurd (hs'.trans ht'.symm) hne
    case hstep =>
      refine ⟨?s0, ?s1, ?s2, ?s3, ?s4, ?s5, ?s6, ?s7, ?s8, ?s9, trivial⟩
      case s0 => exact plain_at (plain_of (guard_none rfl) fun b w' hsz hW hl K hK => by clear hsz; have e5 : b.tmps[5]?.getD undef = .pointer (some ⟨g, 0, none⟩) := getDx (look hl 5 (by kernel_rfl)); unfold Oper.wp; go_simp; exact hK _ _ (Below.refl _ _) (dst_eq rfl rfl)) (dst_eq rfl rfl) rfl
      case s1 => exact plain_at (plain_of (guard_none rfl) fun b w' hsz hW hl K hK => by clear hsz; have e12 : b.tmps[12]?.getD undef = .pointer (some ⟨g, 0, none⟩) := getDx (look hl 12 (by kernel_rfl)); have k0 := hW.cell q0 (by simp; omega); unfold Oper.wp; go_simp; exact hK _ _ (Below.refl _ _) (dst_eq rfl rfl)) (dst_eq rfl rfl) rfl
      case s2 => exact plain_at (pl_move 1 14 (.inl rfl) rfl (guard_none rfl) (by kernel_rfl) (fun v w h => h)) (dst_eq rfl rfl) rfl
      case s3 => exact plain_at (plain_of (guard_none rfl) fun b w' hsz hW hl K hK => by clear hsz; have e14 : b.tmps[14]?.getD undef = .int .i64 (c : Nat) := getDx (look hl 14 (by kernel_rfl)); unfold Oper.wp; go_simp; rw [hq.out]; exact hK _ _ (Below.refl _ _) (dst_eq rfl rfl)) (dst_eq rfl rfl) rfl
      case s4 => exact plain_at (plain_of (guard_none rfl) fun b w' hsz hW hl K hK => by clear hsz; have e15 : b.tmps[15]?.getD undef = .int .i64 (q : Nat) := getDx (look hl 15 (by kernel_rfl)); have hmk := run_zeros (P := Tryz.prog) 22 47 .u32 4 Tryz.underlying22 (by kernel_rfl) ((q : Nat) : Int) (by omega) (by omega) (by omega) w'; rw [Int.toNat_natCast] at hmk; unfold Oper.wp; go_simp; exact hK _ _ ((Below.refl _ _).alloc (Nat.le_refl _) _) (dst_eq rfl ⟨_, rfl, noughts_row w' q (by omega)⟩)) (dst_eq rfl rfl) rfl
      case s5 => exact plain_at (plain_of (guard_none rfl) fun b w' hsz hW hl K hK => by clear hsz; have e5 : b.tmps[5]?.getD undef = .pointer (some ⟨g, 0, none⟩) := getDx (look hl 5 (by kernel_rfl)); unfold Oper.wp; go_simp; exact hK _ _ (Below.refl _ _) (dst_eq rfl rfl)) (dst_eq rfl rfl) rfl
      case s6 => exact plain_at (plain_of (guard_none rfl) fun b w' hsz hW hl K hK => by clear hsz; have e17 : b.tmps[17]?.getD undef = .pointer (some ⟨g, 1, none⟩) := getDx (look hl 17 (by kernel_rfl)); have k1 := hW.cell q1 (by simp; omega); unfold Oper.wp; go_simp; exact hK _ _ (Below.refl _ _) (dst_eq rfl rfl)) (dst_eq rfl rfl) rfl
      case s7 => exact plain_at (plain_of (guard_none rfl) fun b w' hsz hW hl K hK => app_step (look hl 16 (by kernel_rfl)) (look hl 18 (by kernel_rfl)) (hr.but hW hS) (by omega) (by omega) rfl (fun v w'' h1 h2 => hK _ _ h2 (dst_eq rfl h1))) (dst_eq rfl rfl) rfl
      case s8 => exact plain_at (plain_of (guard_none rfl) fun b w' hsz hW hl K hK => by obtain ⟨a9, cap9, h9, hlen9, hr9⟩ := (show Digs w' _ _ _ from look hl 19 (by kernel_rfl)); clear hsz; have e13 : b.tmps[13]?.getD undef = .bool n3 := getDx (look hl 13 (by kernel_rfl)); have e19 := getDx h9; unfold Oper.wp; go_simp; exact hK _ _ (Below.refl _ _) (dst_eq rfl (hfin _ _ _ _ hr9 hlen9))) (dst_eq rfl rfl) rfl
      case s9 => exact put_at (step_put2 9 4 20 rfl rfl rfl (by kernel_rfl) (by kernel_rfl) ⟨fun v w h => Num.form h, fun g w' w'' m a l c hv hc hb r0 r1 => ⟨m, a, l, c, r0, r1, Num.chg hv hc hb.noint⟩⟩) rfl rfl (by kernel_rfl)
    case hend =>
      intro b w' hs hd hW hv hdis hC hfr
      obtain ⟨h4, _⟩ := hv 4 (.inl rfl)
      obtain ⟨q1', b1', i1, o1, m0, m1, hR'⟩ := hC 9 4 (by simp) (by decide) _ h4
      have hBf : Below w.heap.size w w' := hB.trans (hW.below hB.size (by intro k hk; simp only [List.mem_cons, List.not_mem_nil, or_false] at hk; omega))
      rw [Array.getD_eq_getD_getElem?] at h4
      clear hv hdis hC hfr hW
      go_wp2
      exact bodyPost_ret (v := .agg #[.bool q1', .slice b1' i1 o1]) (by simp [results, Tryz.results106, go_sem, h4, m0, m1]) hd ⟨_, rfl, by rw [hqe.out]; exact hR', hBf⟩
end Go.Proofs.YtmpefgemlpnbiaaGreat
namespace Go.Proofs.YtmpefgemlpnbiaaGreat
set_option linter.unusedVariables false
open Go.RowKit
attribute [local go_sem ↓] Go.wp_at_zero Go.wp_at_succ
/-- A fraction's parts, 2^c times less. -/
def scN (y c : Int) : Int := if c < 0 then y * 2 ^ (-c).toNat else y
def scD (z c : Int) : Int := if c < 0 then z else z * 2 ^ c.toNat
theorem boxes_scale (w : World) (n1 : Bool) (a1 : Option Addr) (l1 c1 : Nat) (n2 : Bool) (a2 : Option Addr) (l2 c2 : Nat) : ∃ W, W = (((w.alloc (.cells #[.bool n1, .slice a1 l1 c1] 24)).alloc (.cells #[.bool n2, .slice a2 l2 c2] 24)).alloc (.cells #[.bool false, .slice none 0 0] 24)).alloc (.cells #[.bool false, .slice none 0 0] 24) ∧ Below w.heap.size w W ∧
    (W.cell? ⟨w.heap.size, 0, none⟩ = some (.bool n1) ∧ W.cell? ⟨w.heap.size, 1, none⟩ = some (.slice a1 l1 c1)) ∧ (W.cell? ⟨w.heap.size + 1, 0, none⟩ = some (.bool n2) ∧ W.cell? ⟨w.heap.size + 1, 1, none⟩ = some (.slice a2 l2 c2)) ∧ Box2 W (w.heap.size + 1 + 1) ∧ Box2 W (w.heap.size + 1 + 1 + 1) := by
  have s1 : ((w.alloc (.cells #[.bool n1, .slice a1 l1 c1] 24)).alloc (.cells #[.bool n2, .slice a2 l2 c2] 24)).heap.size = w.heap.size + 1 + 1 := by simp
  have s2 : (((w.alloc (.cells #[.bool n1, .slice a1 l1 c1] 24)).alloc (.cells #[.bool n2, .slice a2 l2 c2] 24)).alloc (.cells #[.bool false, .slice none 0 0] 24)).heap.size = w.heap.size + 1 + 1 + 1 := by simp
  refine ⟨_, rfl, ((((Below.refl _ _).alloc (Nat.le_refl _) _).alloc (by simp) _).alloc (by simp; omega) _).alloc (by simp; omega) _, ⟨?_, ?_⟩, ⟨?_, ?_⟩, ?n0, ?n1⟩
  case n0 =>
    have h := Box2.new ((w.alloc (.cells #[.bool n1, .slice a1 l1 c1] 24)).alloc (.cells #[.bool n2, .slice a2 l2 c2] 24)) false none 0 0 24 (by decide)
    rw [s1] at h
    exact h.next ((Below.refl _ _).alloc (Nat.le_refl _) _)
  case n1 =>
    have h := Box2.new (((w.alloc (.cells #[.bool n1, .slice a1 l1 c1] 24)).alloc (.cells #[.bool n2, .slice a2 l2 c2] 24)).alloc (.cells #[.bool false, .slice none 0 0] 24)) false none 0 0 24 (by decide)
    rw [s2] at h
    exact h
  all_goals simp [go_sem, World.cell?_alloc_past]
/-- Two boxes filled. -/
theorem put_pair {w w4 : World} {p q : Nat} {m : Nat} {y z : Int} (hpq : p ≠ q) (y0 : Box2 w4 p) (y1 : Box2 w4 q) (hB : Below w.heap.size w w4) (hp : w.heap.size ≤ p) (hq : w.heap.size ≤ q) {n1 : Bool} {a1 : Option Addr} {l1 c1 : Nat} {n2 : Bool} {a2 : Option Addr} {l2 c2 : Nat} (h1 : Num w4 (.agg #[.bool n1, .slice a1 l1 c1]) y m) (h2 : Num w4 (.agg #[.bool n2, .slice a2 l2 c2]) z m) :
    ∃ V, V = (((w4.setCell ⟨p, 0, none⟩ (.bool n1)).setCell ⟨p, 1, none⟩ (.slice a1 l1 c1)).setCell ⟨q, 0, none⟩ (.bool n2)).setCell ⟨q, 1, none⟩ (.slice a2 l2 c2) ∧ V.cell? ⟨p, 0, none⟩ = some (.bool n1) ∧ V.cell? ⟨p, 1, none⟩ = some (.slice a1 l1 c1) ∧ V.cell? ⟨q, 0, none⟩ = some (.bool n2) ∧ V.cell? ⟨q, 1, none⟩ = some (.slice a2 l2 c2) ∧ Num V (.agg #[.bool n1, .slice a1 l1 c1]) y m ∧ Num V (.agg #[.bool n2, .slice a2 l2 c2]) z m ∧ Below w.heap.size w V := by
  obtain ⟨_, _, _, _, p0, p1, _⟩ := y0.cells
  obtain ⟨_, _, _, _, q0, q1, _⟩ := y1.cells
  have hBx := put2_boxed (base := w.heap.size) y0.noint hp n1 a1 l1 c1
  have hBy := put2_boxed (base := w.heap.size) (hBx.noint y1.noint) hq n2 a2 l2 c2
  refine ⟨_, rfl, ?_, ?_, ?_, ?_, hBy.num (hBx.num h1), hBy.num (hBx.num h2), hBy.keep (hBx.keep hB (Nat.le_refl _) hB.size) (Nat.le_refl _) (hBx.keep hB (Nat.le_refl _) hB.size).size⟩
  · rw [keep_set (keep_set (v := .bool n1) (by simp [go_sem, p0]) (by simpa using hpq.symm)) (by simpa using hpq.symm)]
  · rw [keep_set (keep_set (v := .slice a1 l1 c1) (by simp [go_sem, p1]) (by simpa using hpq.symm)) (by simpa using hpq.symm)]
  · have k0 := keep_set (u := .slice a1 l1 c1) (q := ⟨p, 1, none⟩) (keep_set (u := .bool n1) (q := ⟨p, 0, none⟩) q0 (by simpa using hpq)) (by simpa using hpq)
    simp [go_sem, k0]
  · have k1 := keep_set (u := .slice a1 l1 c1) (q := ⟨p, 1, none⟩) (keep_set (u := .bool n1) (q := ⟨p, 0, none⟩) q1 (by simpa using hpq)) (by simpa using hpq)
    simp [go_sem, k1]
set_option maxRecDepth 20000 in
set_option maxHeartbeats 4000000 in
theorem scale_num {w : World} {u v : Value} {y z : Int} {m : Nat} (hu : Num w u y m) (hv : Num w v z m) (hm : m ≤ 800) (c : Int) (h0 : -4000 ≤ c) (h1 : c ≤ 4000) :
    Calls Tryz.prog 65 #[u, v, .int .i64 c] w fun e w' => ∃ s t, e = .returned (.tuple #[s, t]) ∧ Num w' s (scN y c) (m + 130) ∧ Num w' t (scD z c) (m + 130) ∧ Below w.heap.size w w' := by
  obtain ⟨n1, a1, l1, c1, rfl⟩ := hu.form
  obtain ⟨n2, a2, l2, c2, rfl⟩ := hv.form
  obtain ⟨W, hW, hbW, ⟨e0, e1⟩, ⟨g0, g1⟩, x0, x1⟩ := boxes_scale w n1 a1 l1 c1 n2 a2 l2 c2
  replace hu := hu.next hbW
  replace hv := hv.next hbW
  have hD0 : Below W.heap.size W W.drew := (Below.refl _ _).drew
  by_cases hneg : c < 0
  · obtain ⟨k, rfl⟩ : ∃ k : Nat, c = -(k : Int) := ⟨(-c).toNat, by omega⟩
    have hN : scN y (-(k : Int)) = y * 2 ^ k := by unfold scN; rw [if_pos hneg]; congr 2; omega
    have hZ : scD z (-(k : Int)) = z := by unfold scD; rw [if_pos hneg]
    rw [hN, hZ]
    have hd : decide (-(k : Int) < 0) = true := by simpa using hneg
    have hwk : IntKind.i64.wrap (k : Int) = (k : Int) := by rw [IntKind.wrap_i64]; omega
    clear hN hZ
    go_enter Tryz.func65, Tryz.ntmps65
    go_upto_region 1 with fail
    rw [← hW]
    clear hW
    go_upto_region 2 with fail
    go_region_with (go_at_call 106; refine Calls.mono (shift_num (c := k) (hu.next hD0) (by omega) (by omega)) ?_; rintro e w2 ⟨t, rfl, hO, hb2⟩; obtain ⟨n3, a3, l3, c3, rfl⟩ := hO.form; have hB2 : Below W.heap.size W w2 := bthen hD0 hb2; have p0 := keep_cell hB2 g0; have p1 := keep_cell hB2 g1; have y0 := x0.next hB2; have y1 := x1.next hB2; obtain ⟨_, _, _, _, j0, j1, f⟩ := y0.cells; have f0 := f 0; have f1 := f 1; clear f; obtain ⟨_, _, _, _, j2, j3, f⟩ := y1.cells; have f2 := f 0; have f3 := f 1; clear f)
    all_goals
      obtain ⟨V, hV, v0, v1, v2, v3, r1, r2, hBV⟩ := put_pair (m := m + 130) (by omega) y0 y1 (bthen hbW hB2) (by omega) (by omega) (hO.more' (by omega)) ((hv.next hB2).more' (m := m + 130) (by omega))
      replace r1 : Hid _ := r1
      replace r2 : Hid _ := r2
      clear hO hu hv hb2 hB2
      go_wp2
      rw [← hV]
      exact bodyPost_ret (v := .tuple #[.agg #[.bool n3, .slice a3 l3 c3], .agg #[.bool n2, .slice a2 l2 c2]]) (by simp [results, Tryz.results65, go_sem, v0, v1, v2, v3]) rfl ⟨_, _, rfl, r1.out, r2.out, hBV⟩
  · obtain ⟨k, rfl⟩ : ∃ k : Nat, c = (k : Int) := ⟨c.toNat, by omega⟩
    have hN : scN y (k : Int) = y := by unfold scN; rw [if_neg hneg]
    have hZ : scD z (k : Int) = z * 2 ^ k := by unfold scD; rw [if_neg hneg]; congr 2
    rw [hN, hZ]
    have hd : decide ((k : Int) < 0) = false := decide_eq_false hneg
    clear hN hZ
    go_enter Tryz.func65, Tryz.ntmps65
    go_upto_region 1 with fail
    rw [← hW]
    clear hW
    go_upto_region 3 with fail
    go_region_with (go_at_call 106; refine Calls.mono (shift_num (c := k) (hv.next hD0) (by omega) (by omega)) ?_; rintro e w2 ⟨t, rfl, hO, hb2⟩; obtain ⟨n3, a3, l3, c3, rfl⟩ := hO.form; have hB2 : Below W.heap.size W w2 := bthen hD0 hb2; have p0 := keep_cell hB2 e0; have p1 := keep_cell hB2 e1; have y0 := x0.next hB2; have y1 := x1.next hB2; obtain ⟨_, _, _, _, j0, j1, f⟩ := y0.cells; have f0 := f 0; have f1 := f 1; clear f; obtain ⟨_, _, _, _, j2, j3, f⟩ := y1.cells; have f2 := f 0; have f3 := f 1; clear f)
    all_goals
      obtain ⟨V, hV, v0, v1, v2, v3, r1, r2, hBV⟩ := put_pair (m := m + 130) (by omega) y0 y1 (bthen hbW hB2) (by omega) (by omega) ((hu.next hB2).more' (m := m + 130) (by omega)) (hO.more' (by omega))
      replace r1 : Hid _ := r1
      replace r2 : Hid _ := r2
      clear hO hu hv hb2 hB2
      go_wp2
      rw [← hV]
      exact bodyPost_ret (v := .tuple #[.agg #[.bool n1, .slice a1 l1 c1], .agg #[.bool n3, .slice a3 l3 c3]]) (by simp [results, Tryz.results65, go_sem, v0, v1, v2, v3]) rfl ⟨_, _, rfl, r1.out, r2.out, hBV⟩
end Go.Proofs.YtmpefgemlpnbiaaGreat
namespace Go.Proofs.YtmpefgemlpnbiaaGreat
set_option linter.unusedVariables false
open Go.RowKit
attribute [local go_sem ↓] Go.wp_at_zero Go.wp_at_succ
theorem two_pos (n : Nat) : (0 : Int) < 2 ^ n := Int.pow_pos (by decide)
theorem sc_up (y z c : Int) (K : Nat) (hK : -(K : Int) ≤ c) : ∃ T : Int, 0 < T ∧ scD z c * T = z * 2 ^ (K + c).toNat ∧ scN y c * T = y * 2 ^ K := by
  unfold scN scD
  by_cases h : c < 0
  · refine ⟨2 ^ (K + c).toNat, two_pos _, by rw [if_pos h], ?_⟩
    rw [if_pos h, Int.mul_assoc, ← Int.pow_add]
    congr 2
    omega
  · refine ⟨2 ^ K, two_pos _, ?_, by rw [if_neg h]⟩
    rw [if_neg h, Int.mul_assoc, ← Int.pow_add]
    congr 2
    omega
/-- e is the exponent of the greatest power of two that is not above y over z. -/
def IsExp (y z e : Int) : Prop := scD z e ≤ scN y e ∧ scN y e < 2 * scD z e
theorem isExp_iff (y z e : Int) (K : Nat) (hK : -(K : Int) ≤ e) : IsExp y z e ↔ z * 2 ^ (K + e).toNat ≤ y * 2 ^ K ∧ y * 2 ^ K < z * 2 ^ ((K + e).toNat + 1) := by
  obtain ⟨T, h0, h1, h2⟩ := sc_up y z e K hK
  unfold IsExp
  rw [← h2, Int.pow_succ, ← Int.mul_assoc, ← h1]
  constructor
  · rintro ⟨a, b⟩
    refine ⟨Int.mul_le_mul_of_nonneg_right a (by omega), ?_⟩
    have := Int.mul_lt_mul_of_pos_right b h0
    rw [Int.mul_comm (scD z e * T) 2, ← Int.mul_assoc]
    exact this
  · rintro ⟨a, b⟩
    refine ⟨Int.le_of_mul_le_mul_right a h0, ?_⟩
    rw [Int.mul_comm (scD z e * T) 2, ← Int.mul_assoc] at b
    exact Int.lt_of_mul_lt_mul_right b (by omega)
theorem pow_le2 {m n : Nat} (h : m ≤ n) : (2 : Int) ^ m ≤ 2 ^ n := by
  have := Nat.pow_le_pow_right (show 0 < 2 by decide) h
  exact_mod_cast this
theorem isExp_uniq {y z e e' : Int} (hz : 0 < z) (h : IsExp y z e) (h' : IsExp y z e') : e = e' := by
  have key : ∀ {e e' : Int}, IsExp y z e → IsExp y z e' → ¬ e < e' := by
    intro e e' h h' hlt
    rw [isExp_iff y z e (e.natAbs + e'.natAbs) (by omega)] at h
    rw [isExp_iff y z e' (e.natAbs + e'.natAbs) (by omega)] at h'
    have h1 := Int.lt_of_le_of_lt h'.1 h.2
    have h2 := Int.lt_of_mul_lt_mul_left h1 (by omega)
    have h3 := pow_le2 (m := (((e.natAbs + e'.natAbs : Nat) : Int) + e).toNat + 1) (n := (((e.natAbs + e'.natAbs : Nat) : Int) + e').toNat) (by omega)
    omega
  have a := key h h'
  have b := key h' h
  omega
theorem isExp_guess {y z : Int} {L M : Nat} (hy : 2 ^ (L - 1) ≤ y) (hy2 : y < 2 ^ L) (hL : 0 < L) (hz : 2 ^ (M - 1) ≤ z) (hz2 : z < 2 ^ M) (hM : 0 < M) (g : Int) (hg : g = (L : Int) - M) :
    (scD z g ≤ scN y g → IsExp y z g) ∧ (scN y g < scD z g → IsExp y z (g - 1)) := by
  subst hg
  have hzp : 0 < z := by have := two_pos (M - 1); omega
  have hyp : 0 < y := by have := two_pos (L - 1); omega
  obtain ⟨T, h0, h1, h2⟩ := sc_up y z ((L : Int) - M) (M + 1) (by omega)
  have eE : (((M + 1 : Nat) : Int) + ((L : Int) - M)).toNat = L + 1 := by omega
  rw [eE] at h1
  have up : y * 2 ^ (M + 1) < z * 2 ^ (L + 1 + 1) := by
    have a1 : y * 2 ^ (M + 1) < 2 ^ L * 2 ^ (M + 1) := Int.mul_lt_mul_of_pos_right hy2 (two_pos _)
    have a2 : (2 : Int) ^ (M - 1) * 2 ^ (L + 1 + 1) ≤ z * 2 ^ (L + 1 + 1) := Int.mul_le_mul_of_nonneg_right hz (Int.le_of_lt (two_pos _))
    rw [← Int.pow_add] at a1 a2
    rw [show L + (M + 1) = M - 1 + (L + 1 + 1) from by omega] at a1
    omega
  have lo : z * 2 ^ L ≤ y * 2 ^ (M + 1) := by
    have a1 : z * 2 ^ L ≤ 2 ^ M * 2 ^ L := Int.mul_le_mul_of_nonneg_right (by omega) (Int.le_of_lt (two_pos _))
    have a2 : (2 : Int) ^ (L - 1) * 2 ^ (M + 1) ≤ y * 2 ^ (M + 1) := Int.mul_le_mul_of_nonneg_right hy (Int.le_of_lt (two_pos _))
    rw [← Int.pow_add] at a1 a2
    rw [show L - 1 + (M + 1) = M + L from by omega] at a2
    omega
  constructor
  · intro h
    rw [isExp_iff y z _ (M + 1) (by omega), eE]
    refine ⟨?_, up⟩
    rw [← h1, ← h2]
    exact Int.mul_le_mul_of_nonneg_right h (by omega)
  · intro h
    rw [isExp_iff y z _ (M + 1) (by omega), show (((M + 1 : Nat) : Int) + ((L : Int) - M - 1)).toNat = L from by omega]
    refine ⟨lo, ?_⟩
    rw [← h1, ← h2]
    exact Int.mul_lt_mul_of_pos_right h h0
theorem bits_le {y : Int} {L m : Nat} (hb : HasBits (y.natAbs : Int) L) (h : (y.natAbs : Int) < 4294967296 ^ m) : L ≤ 32 * m := by
  rcases hb.2 with h0 | h0
  · omega
  · by_cases hc : L ≤ 32 * m
    · exact hc
    · have h1 : (2 : Int) ^ (32 * m) ≤ 2 ^ (L - 1) := pow_le2 (by omega)
      rw [show (4294967296 : Int) = 2 ^ 32 from by decide, ← Int.pow_mul] at h
      omega
theorem boxes_two24 (w : World) (n1 : Bool) (a1 : Option Addr) (l1 c1 : Nat) (n2 : Bool) (a2 : Option Addr) (l2 c2 : Nat) : ∃ W, W = (w.alloc (.cells #[.bool n1, .slice a1 l1 c1] 24)).alloc (.cells #[.bool n2, .slice a2 l2 c2] 24) ∧ Below w.heap.size w W ∧
    (W.cell? ⟨w.heap.size, 0, none⟩ = some (.bool n1) ∧ W.cell? ⟨w.heap.size, 1, none⟩ = some (.slice a1 l1 c1)) ∧ (W.cell? ⟨w.heap.size + 1, 0, none⟩ = some (.bool n2) ∧ W.cell? ⟨w.heap.size + 1, 1, none⟩ = some (.slice a2 l2 c2)) ∧ Box2 W w.heap.size ∧ Box2 W (w.heap.size + 1) := by
  refine ⟨_, rfl, ((Below.refl _ _).alloc (Nat.le_refl _) _).alloc (by simp) _, ⟨?_, ?_⟩, ⟨?_, ?_⟩, ?n0, ?n1⟩
  case n0 => exact (Box2.new w n1 a1 l1 c1 24 (by decide)).next ((Below.refl _ _).alloc (Nat.le_refl _) _)
  case n1 =>
    have h := Box2.new (w.alloc (.cells #[.bool n1, .slice a1 l1 c1] 24)) n2 a2 l2 c2 24 (by decide)
    rw [show (w.alloc (.cells #[.bool n1, .slice a1 l1 c1] 24)).heap.size = w.heap.size + 1 from by simp] at h
    exact h
  all_goals simp [go_sem, World.cell?_alloc_past]
set_option maxRecDepth 20000 in
set_option maxHeartbeats 4000000 in
theorem exponent_num {w : World} {u v : Value} {y z : Int} {m : Nat} (hu : Num w u y m) (hv : Num w v z m) (hm : m ≤ 120) (hy : 0 < y) (hz : 0 < z) :
    Calls Tryz.prog 96 #[u, v] w fun e w' => ∃ x : Int, e = .returned (.int .i64 x) ∧ IsExp y z x ∧ -3841 ≤ x ∧ x ≤ 3841 ∧ Below w.heap.size w w' := by
  obtain ⟨n1, a1, l1, c1, rfl⟩ := hu.form
  obtain ⟨n2, a2, l2, c2, rfl⟩ := hv.form
  obtain ⟨W, hW, hbW, ⟨e0, e1⟩, ⟨g0, g1⟩, x0, x1⟩ := boxes_two24 w n1 a1 l1 c1 n2 a2 l2 c2
  replace hu := hu.next hbW
  replace hv := hv.next hbW
  have hD0 : Below W.heap.size W W.drew := (Below.refl _ _).drew
  have bu := hu.bound
  have bv := hv.bound
  replace bu : Hid _ := bu
  replace bv : Hid _ := bv
  go_enter Tryz.func96, Tryz.ntmps96
  go_upto_region 1 with fail
  rw [← hW]
  clear hW
  go_cut [5] from 6 (fun p wc => ∃ L M : Nat, p = .int .i64 ((L : Int) - M) ∧ Hid (HasBits (y.natAbs : Int) L) ∧ Hid (HasBits (z.natAbs : Int) M) ∧ Below W.heap.size W wc)
  case first =>
    go_region_with (first
      | (go_at_call_of 45 (Value.slice a1 l1 c1); refine Calls.mono (Bits_num (hu.next hD0) (by omega)) ?_; rintro e w2 ⟨L, rfl, hL, hb2⟩; have hL1 := bits_le hL bu.out; have hB2 : Below W.heap.size W w2 := bthen hD0 hb2; have p0 := keep_cell hB2 g0; have p1 := keep_cell hB2 g1; replace hL : Hid _ := hL)
      | (go_at_call_of 45 (Value.slice a2 l2 c2); refine Calls.mono (Bits_num (hv.next hB2) (by omega)) ?_; rintro e w3 ⟨M, rfl, hM, hb3⟩; have hM1 := bits_le hM bv.out; have hB3 : Below W.heap.size W w3 := bthen hB2 hb3; replace hM : Hid _ := hM))
    all_goals
      go_wp2_with fail
      go_meet
      case rel => exact ⟨L, M, by rw [IntKind.wrap_i64]; congr 1; omega, hL, hM, hB3⟩
  case rest =>
    obtain ⟨L, M, rfl, hL, hM, hb3⟩ := hcut
    have hL1 := bits_le hL.out bu.out
    have hM1 := bits_le hM.out bv.out
    generalize wc = W3 at *
    replace e0 := keep_cell hb3 e0
    replace e1 := keep_cell hb3 e1
    replace g0 := keep_cell hb3 g0
    replace g1 := keep_cell hb3 g1
    replace x0 := x0.next hb3
    replace x1 := x1.next hb3
    replace hu := hu.next hb3
    replace hv := hv.next hb3
    have hB := bthen hbW hb3
    clear hb3 hbW hD0 bu bv
    have hexp := isExp_guess (y := y) (z := z) (L := L) (M := M)
    have hL0 : 0 < L := by
      rcases Nat.eq_zero_or_pos L with h | h
      · subst h; have := hL.out.1; simp at this; omega
      · exact h
    have hM0 : 0 < M := by
      rcases Nat.eq_zero_or_pos M with h | h
      · subst h; have := hM.out.1; simp at this; omega
      · exact h
    have hy1 : 2 ^ (L - 1) ≤ y ∧ y < 2 ^ L := by
      obtain ⟨h1, h2⟩ := hL.out
      rw [show (y.natAbs : Int) = y from by omega] at h1 h2
      exact ⟨by rcases h2 with h | h; · omega
                · exact h, h1⟩
    have hz1 : 2 ^ (M - 1) ≤ z ∧ z < 2 ^ M := by
      obtain ⟨h1, h2⟩ := hM.out
      rw [show (z.natAbs : Int) = z from by omega] at h1 h2
      exact ⟨by rcases h2 with h | h; · omega
                · exact h, h1⟩
    have hexp := isExp_guess hy1.1 hy1.2 hL0 hz1.1 hz1.2 hM0 _ rfl
    replace hexp : Hid _ := hexp
    clear hL hM hy1 hz1
    generalize hg : (L : Int) - M = g at *
    have hg1 : -3840 ≤ g ∧ g ≤ 3840 := by omega
    clear hg hL0 hM0 hL1 hM1
    have k2 := scale_num hu hv (by omega) g (by omega) (by omega)
    replace k2 : Hid _ := k2
    go_wp2_with fail
    refine Calls.mono k2.out ?_
    rintro e w4 ⟨s, t, rfl, hS, hT, b4⟩
    clear k2
    obtain ⟨n3, a3, l3, c3, rfl⟩ := hS.form
    obtain ⟨n4, a4, l4, c4, rfl⟩ := hT.form
    have y0 := x0.next b4
    have y1 := x1.next b4
    obtain ⟨_, _, _, _, j0, j1, f⟩ := y0.cells
    have f0 := f 0
    have f1 := f 1
    clear f
    obtain ⟨_, _, _, _, j2, j3, f⟩ := y1.cells
    have f2 := f 0
    have f3 := f 1
    clear f
    obtain ⟨V, hV, v0, v1, v2, v3, r1, r2, hBV⟩ := put_pair (m := m + 130) (by omega) y0 y1 (bthen hB b4) (Nat.le_refl _) (by omega) hS hT
    have k3 := Cmp_num r1 r2 (by omega) (by omega)
    replace k3 : Hid _ := k3
    clear hS hT hu hv e0 e1 g0 g1 x0 x1 hB y0 y1
    go_upto_region 3 with fail
    rw [← hV]
    clear hV j0 j1 j2 j3 f0 f1 f2 f3
    go_wp2_with fail
    refine Calls.mono k3.out ?_
    rintro e w5 ⟨rfl, b5⟩
    clear k3
    have hBf := bthen hBV b5
    by_cases hc : scN y g < scD z g
    · have e1 : cmpI (scN y g) (scD z g) = -1 := by unfold cmpI; rw [if_pos hc]
      rw [e1]
      have hx := hexp.out.2 hc
      replace hx : Hid _ := hx
      clear hexp e1 hc
      go_wp2
      go_ret
      exact ⟨g - 1, rfl, hx.out, by omega, by omega, hBf⟩
    · have hx := hexp.out.1 (by omega)
      have e1 : decide (cmpI (scN y g) (scD z g) < 0) = false := by unfold cmpI; rw [if_neg hc]; split <;> simp
      generalize cmpI (scN y g) (scD z g) = r at *
      replace hx : Hid _ := hx
      clear hexp hc
      go_wp2
      go_ret
      exact ⟨g, rfl, hx.out, by omega, by omega, hBf⟩
end Go.Proofs.YtmpefgemlpnbiaaGreat
namespace Go.Proofs.YtmpefgemlpnbiaaGreat
set_option linter.unusedVariables false
open Go.RowKit
attribute [local go_sem ↓] Go.wp_at_zero Go.wp_at_succ
/-- The whole number nearest to y over z, the even one of two. -/
def near (y z : Int) : Int := if z < 2 * (y % z) ∨ (2 * (y % z) = z ∧ (y / z) % 2 = 1) then y / z + 1 else y / z
theorem boxes_quo (w : World) (n1 : Bool) (a1 : Option Addr) (l1 c1 : Nat) (n2 : Bool) (a2 : Option Addr) (l2 c2 : Nat) : ∃ W, W = (w.alloc (.cells #[.bool n1, .slice a1 l1 c1] 24)).alloc (.cells #[.bool n2, .slice a2 l2 c2] 24) ∧ Below w.heap.size w W ∧
    (W.cell? ⟨w.heap.size, 0, none⟩ = some (.bool n1) ∧ W.cell? ⟨w.heap.size, 1, none⟩ = some (.slice a1 l1 c1)) ∧ (W.cell? ⟨w.heap.size + 1, 0, none⟩ = some (.bool n2) ∧ W.cell? ⟨w.heap.size + 1, 1, none⟩ = some (.slice a2 l2 c2)) := by
  obtain ⟨W, h1, h2, h3, h4, _⟩ := boxes_two24 w n1 a1 l1 c1 n2 a2 l2 c2
  exact ⟨W, h1, h2, h3, h4⟩
set_option maxRecDepth 20000 in
set_option maxHeartbeats 4000000 in
theorem nearest_num {w : World} {u v : Value} {y z : Int} {m : Nat} (hu : Num w u y m) (hv : Num w v z m) (hm : m ≤ 1000) (hy : 0 ≤ y) (hz : 0 < z) (hq : y / z < 4611686018427387904) :
    Calls Tryz.prog 97 #[u, v] w fun e w' => e = .returned (.int .u64 (near y z)) ∧ Below w.heap.size w w' := by
  obtain ⟨n1, a1, l1, c1, rfl⟩ := hu.form
  obtain ⟨n2, a2, l2, c2, rfl⟩ := hv.form
  obtain ⟨W, hW, hbW, ⟨e0, e1⟩, ⟨g0, g1⟩⟩ := boxes_quo w n1 a1 l1 c1 n2 a2 l2 c2
  replace hu := hu.next hbW
  replace hv := hv.next hbW
  have k1 := Quo_num hu hv (by omega) (by omega) (by omega)
  rw [Int.tdiv_eq_ediv_of_nonneg hy, Int.tmod_eq_emod_of_nonneg hy] at k1
  replace k1 : Hid _ := k1
  have hq0 : 0 ≤ y / z := Int.ediv_nonneg hy (by omega)
  have hr0 : 0 ≤ y % z := Int.emod_nonneg _ (by omega)
  have hr1 : y % z < z := Int.emod_lt_of_pos _ hz
  unfold near
  generalize y / z = q at *
  generalize y % z = r at *
  obtain ⟨N, hN⟩ : ∃ N : Int, N = (if z < 2 * r ∨ 2 * r = z ∧ q % 2 = 1 then q + 1 else q) := ⟨_, rfl⟩
  rw [← hN]
  replace hN : Hid _ := hN
  go_enter Tryz.func97, Tryz.ntmps97
  go_upto_region 1 with fail
  rw [← hW]
  clear hW
  go_wp2_with fail
  refine Calls.mono k1.out ?_
  rintro e w1 ⟨t, t', rfl, hQ, hR, b1⟩
  clear k1
  replace hQ := hQ.num
  replace hR := hR.num
  obtain ⟨n3, a3, l3, c3, rfl⟩ := hQ.form
  obtain ⟨n4, a4, l4, c4, rfl⟩ := hR.form
  obtain ⟨W1, hW1, b2, ⟨p0, p1⟩, ⟨p2, p3⟩⟩ := boxes_quo w1 n3 a3 l3 c3 n4 a4 l4 c4
  have b12 := bthen b1 b2
  replace g0 := keep_cell b12 g0
  replace g1 := keep_cell b12 g1
  replace hv := hv.next b12
  replace hQ := hQ.next b2
  replace hR := hR.next b2
  have hB := bthen hbW b12
  clear hu e0 e1 hbW b1 b2 b12
  have k2 := Int64_num hQ
  have hf : fits64 q = true := by unfold fits64; simp; omega
  have hp : pick64 q = q := by unfold pick64; rw [hf]; rfl
  rw [hf, hp] at k2
  replace k2 : Hid _ := k2
  clear hf hp
  go_upto_region 2 with fail
  rw [← hW1]
  clear hW1
  generalize w1.heap.size = bq at *
  go_wp2_with fail
  refine Calls.mono k2.out ?_
  rintro e w2 ⟨rfl, b3⟩
  clear k2
  replace g0 := keep_cell b3 g0
  replace g1 := keep_cell b3 g1
  replace p2 := keep_cell b3 p2
  replace p3 := keep_cell b3 p3
  replace hv := hv.next b3
  replace hR := hR.next b3
  have hB := bthen hB b3
  clear p0 p1 hQ b3
  have hD0 : Below w2.heap.size w2 w2.drew := (Below.refl _ _).drew
  go_upto_region 3 with fail
  go_cut [10] from 11 (fun p wc => p = .int .i64 (cmpI (r + r) z) ∧ Below w2.heap.size w2 wc)
  case first =>
    go_region_with (first
      | (go_at_call 128; refine Calls.mono (Add_num (hR.next hD0) (hR.next hD0) (by omega) (by omega)) ?_; rintro e w3 ⟨t, rfl, hS, hb3⟩; replace hS := hS.num; obtain ⟨n5, a5, l5, c5, rfl⟩ := hS.form; have hB3 : Below w2.heap.size w2 w3 := bthen hD0 hb3; have q0 := keep_cell hB3 g0; have q1 := keep_cell hB3 g1)
      | (go_at_call 127; refine Calls.mono (Cmp_num hS (hv.next hB3) (by omega) (by omega)) ?_; rintro e w4 ⟨rfl, hb4⟩; have hB4 : Below w2.heap.size w2 w4 := bthen hB3 hb4))
    all_goals
      clear hS
      go_wp2_with fail
      go_meet
      case rel => exact ⟨rfl, hB4⟩
  case rest =>
    obtain ⟨rfl, hb5⟩ := hcut
    have hBf := bthen hB hb5
    clear hb5 hD0 hB hv hR g0 g1 p2 p3
    have hw : IntKind.i64.wrap (q + 1) = q + 1 := by rw [IntKind.wrap_i64]; omega
    have hw2 : IntKind.u64.wrap (q + 1) = q + 1 := by rw [IntKind.wrap_u64]; omega
    have hw3 : IntKind.u64.wrap q = q := by rw [IntKind.wrap_u64]; omega
    by_cases h1 : z < 2 * r
    · have ec : cmpI (r + r) z = 1 := by unfold cmpI; rw [if_neg (by omega), if_neg (by omega)]
      have hn : Hid (N = q + 1) := hN.out.trans (if_pos (.inl h1))
      rw [ec]
      clear ec h1
      go_wp2
      go_ret
      exact ⟨by rw [hn.out]; rfl, hBf⟩
    · by_cases h2 : 2 * r = z
      · have ec : cmpI (r + r) z = 0 := by unfold cmpI; rw [if_neg (by omega), if_pos (by omega)]
        have et : q.tmod 2 = q % 2 := Int.tmod_eq_emod_of_nonneg hq0
        by_cases h3 : q % 2 = 1
        · have hn : Hid (N = q + 1) := hN.out.trans (if_pos (.inr ⟨h2, h3⟩))
          rw [ec]
          have e3 : (q % 2 == 1) = true := by simpa using h3
          have e4 : (q.tmod 2 == 1) = true := by rw [et]; exact e3
          clear ec h1 h2
          replace et : Hid _ := et
          go_wp2
          go_ret
          exact ⟨by rw [hn.out]; rfl, hBf⟩
        · have hn : Hid (N = q) := hN.out.trans (if_neg (by omega))
          rw [ec]
          have e3 : (q % 2 == 1) = false := by simpa using h3
          have e4 : (q.tmod 2 == 1) = false := by rw [et]; exact e3
          clear ec h1 h2
          replace et : Hid _ := et
          go_wp2
          go_ret
          exact ⟨by rw [hn.out]; rfl, hBf⟩
      · have ec : cmpI (r + r) z = -1 := by unfold cmpI; rw [if_pos (by omega)]
        have hn : Hid (N = q) := hN.out.trans (if_neg (by omega))
        rw [ec]
        clear ec h1 h2
        go_wp2
        go_ret
        exact ⟨by rw [hn.out]; rfl, hBf⟩
end Go.Proofs.YtmpefgemlpnbiaaGreat
namespace Go.Proofs.YtmpefgemlpnbiaaGreat
set_option linter.unusedVariables false
open Go.RowKit
attribute [local go_sem ↓] Go.wp_at_zero Go.wp_at_succ
theorem Num.size {w : World} {b : Bool} {a : Option Addr} {l c : Nat} {z : Int} {n : Nat} (h : Num w (.agg #[.bool b, .slice a l c]) z n) : Num w (.agg #[.bool false, .slice a l c]) (z.natAbs : Int) n := by
  obtain ⟨neg, a', cap, ds, hv, hr, hz, hl⟩ := h
  simp at hv
  obtain ⟨rfl, rfl, rfl, rfl⟩ := hv
  refine ⟨false, a, c, ds, rfl, hr, ?_, hl⟩
  have h0 := val_nonneg (B := 4294967296) (by decide) hr.words
  subst hz
  cases b <;> simp [num] <;> omega
/-- A denominator's size; none is 1. -/
def dA (d : Int) : Int := if d = 0 then 1 else (d.natAbs : Int)
theorem dA_pos (d : Int) : 0 < dA d := by unfold dA; split <;> omega
theorem boxes_mag (w : World) (n1 : Bool) (a1 : Option Addr) (l1 c1 : Nat) (n2 : Bool) (a2 : Option Addr) (l2 c2 : Nat) : ∃ W, W = ((w.alloc (.cells #[.bool n1, .slice a1 l1 c1, .bool n2, .slice a2 l2 c2] 26)).alloc (.cells #[.bool false, .slice none 0 0] 24)).alloc (.cells #[.bool false, .slice none 0 0] 24) ∧ Below w.heap.size w W ∧
    (W.cell? ⟨w.heap.size, 0, none⟩ = some (.bool n1) ∧ W.cell? ⟨w.heap.size, 1, none⟩ = some (.slice a1 l1 c1) ∧ W.cell? ⟨w.heap.size, 2, none⟩ = some (.bool n2) ∧ W.cell? ⟨w.heap.size, 3, none⟩ = some (.slice a2 l2 c2)) ∧ Box2 W (w.heap.size + 1) ∧ Box2 W (w.heap.size + 1 + 1) := by
  have s1 : (w.alloc (.cells #[.bool n1, .slice a1 l1 c1, .bool n2, .slice a2 l2 c2] 26)).heap.size = w.heap.size + 1 := by simp
  have s2 : ((w.alloc (.cells #[.bool n1, .slice a1 l1 c1, .bool n2, .slice a2 l2 c2] 26)).alloc (.cells #[.bool false, .slice none 0 0] 24)).heap.size = w.heap.size + 1 + 1 := by simp
  refine ⟨_, rfl, (((Below.refl _ _).alloc (Nat.le_refl _) _).alloc (by simp) _).alloc (by simp; omega) _, ⟨?_, ?_, ?_, ?_⟩, ?n0, ?n1⟩
  case n0 =>
    have h := Box2.new (w.alloc (.cells #[.bool n1, .slice a1 l1 c1, .bool n2, .slice a2 l2 c2] 26)) false none 0 0 24 (by decide)
    rw [s1] at h
    exact h.next ((Below.refl _ _).alloc (Nat.le_refl _) _)
  case n1 =>
    have h := Box2.new ((w.alloc (.cells #[.bool n1, .slice a1 l1 c1, .bool n2, .slice a2 l2 c2] 26)).alloc (.cells #[.bool false, .slice none 0 0] 24)) false none 0 0 24 (by decide)
    rw [s2] at h
    exact h
  all_goals simp [go_sem, World.cell?_alloc_past]
set_option maxRecDepth 20000 in
set_option maxHeartbeats 4000000 in
theorem magnitudes_num {w : World} {v : Value} {n d : Int} {m : Nat} (hv : Frac w v n d m) (hm : m ≤ 1000) :
    Calls Tryz.prog 95 #[v] w fun e w' => ∃ s t, e = .returned (.tuple #[s, t]) ∧ Num w' s (n.natAbs : Int) (m + 2) ∧ Num w' t (dA d) (m + 2) ∧ Below w.heap.size w w' := by
  obtain ⟨n1, a1, l1, c1, n2, a2, l2, c2, rfl, h1, h2⟩ := hv
  obtain ⟨W, hW, hbW, ⟨e0, e1, e2, e3⟩, x0, x1⟩ := boxes_mag w n1 a1 l1 c1 n2 a2 l2 c2
  replace h1 := h1.next hbW
  replace h2 := h2.next hbW
  have k1 := Bits_num h2 hm
  replace k1 : Hid _ := k1
  go_enter Tryz.func95, Tryz.ntmps95
  go_upto_region 1 with fail
  rw [← hW]
  clear hW
  go_wp2_with fail
  refine Calls.mono k1.out ?_
  rintro e w1 ⟨L, rfl, hL, b1⟩
  clear k1
  replace e0 := keep_cell b1 e0
  replace e1 := keep_cell b1 e1
  replace e2 := keep_cell b1 e2
  replace e3 := keep_cell b1 e3
  replace x0 := x0.next b1
  replace x1 := x1.next b1
  replace h1 := h1.next b1
  replace h2 := h2.next b1
  have hB := bthen hbW b1
  clear hbW b1
  have hz := hL.zero (by omega)
  have hD0 : Below w1.heap.size w1 w1.drew := (Below.refl _ _).drew
  by_cases hd : d = 0
  · have hL0 : L = 0 := hz.2 (by omega)
    subst hL0
    have hdA : dA d = 1 := by unfold dA; rw [if_pos hd]
    replace hdA : Hid _ := hdA
    clear hL hz
    go_upto_region 2 with fail
    go_region_with (go_at_call 46; refine Calls.mono (Of_any 1 _ (by decide) (by decide)) ?_; rintro e w2 ⟨t, rfl, hO, hb2⟩; replace hO := hO.num; obtain ⟨n3, a3, l3, c3, rfl⟩ := hO.form; have hB2 : Below w1.heap.size w1 w2 := bthen hD0 hb2; have p0 := keep_cell hB2 e0; have p1 := keep_cell hB2 e1; have y0 := x0.next hB2; have y1 := x1.next hB2; obtain ⟨_, _, _, _, j0, j1, f⟩ := y0.cells; have f0 := f 0; have f1 := f 1; clear f; obtain ⟨_, _, _, _, j2, j3, f⟩ := y1.cells; have f2 := f 0; have f3 := f 1; clear f)
    all_goals
      obtain ⟨V, hV, v0, v1, v2, v3, r1, r2, hBV⟩ := put_pair (m := m + 2) (by omega) y0 y1 (bthen hB hB2) (by omega) (by omega) ((h1.next hB2).size.more' (m := m + 2) (by omega)) (hO.more' (m := m + 2) (by omega))
      replace r1 : Hid _ := r1
      replace r2 : Hid _ := r2
      clear hO h1 h2 hb2 hB2
      go_wp2
      rw [← hV]
      exact bodyPost_ret (v := .tuple #[.agg #[.bool false, .slice a1 l1 c1], .agg #[.bool n3, .slice a3 l3 c3]]) (by simp [results, Tryz.results95, go_sem, v0, v1, v2, v3]) rfl ⟨_, _, rfl, r1.out, by rw [hdA.out]; exact r2.out, hBV⟩
  · have hL0 : ¬ ((L : Int) = 0) := fun e => hd (by have := hz.1 (by omega); omega)
    have hL1 : ((L : Int) == 0) = false := by simpa using hL0
    have hdA : dA d = (d.natAbs : Int) := by unfold dA; rw [if_neg hd]
    replace hdA : Hid _ := hdA
    clear hL hz hL0
    have y0 := x0
    have y1 := x1
    obtain ⟨_, _, _, _, j0, j1, f⟩ := y0.cells
    have f0 := f 0
    have f1 := f 1
    clear f
    obtain ⟨_, _, _, _, j2, j3, f⟩ := y1.cells
    have f2 := f 0
    have f3 := f 1
    clear f
    obtain ⟨V, hV, v0, v1, v2, v3, r1, r2, hBV⟩ := put_pair (m := m + 2) (by omega) y0 y1 hB (by omega) (by omega) (h1.size.more' (m := m + 2) (by omega)) (h2.size.more' (m := m + 2) (by omega))
    have hDV : Below V.heap.size V V.drew := (Below.refl _ _).drew
    replace r1 : Hid _ := r1
    replace r2 : Hid _ := r2
    go_upto_region 3 with fail
    go_region
    all_goals
      go_wp2
      rw [← hV]
      exact bodyPost_ret (v := .tuple #[.agg #[.bool false, .slice a1 l1 c1], .agg #[.bool false, .slice a2 l2 c2]]) (by simp [results, Tryz.results95, go_sem, v0, v1, v2, v3]) rfl ⟨_, _, rfl, Num.next r1.out hDV, by rw [hdA.out]; exact Num.next r2.out hDV, bthen hBV hDV⟩
set_option maxRecDepth 20000 in
set_option maxHeartbeats 4000000 in
/-- The signs alone. -/
theorem isBelow_num {w : World} {n1 : Bool} {a1 : Option Addr} {l1 c1 : Nat} {n2 : Bool} {a2 : Option Addr} {l2 c2 : Nat} {n d : Int} {m : Nat} (h1 : Num w (.agg #[.bool n1, .slice a1 l1 c1]) n m) (h2 : Num w (.agg #[.bool n2, .slice a2 l2 c2]) d m) (hm : m ≤ 1000) (hn : n ≠ 0) :
    Calls Tryz.prog 56 #[.agg #[.bool n1, .slice a1 l1 c1, .bool n2, .slice a2 l2 c2]] w fun e w' => e = .returned (.bool (decide (pN n d < 0))) ∧ Below w.heap.size w w' := by
  obtain ⟨W, hW⟩ : ∃ W, W = w.alloc (.cells #[.bool n1, .slice a1 l1 c1, .bool n2, .slice a2 l2 c2] 26) := ⟨_, rfl⟩
  have hbW : Below w.heap.size w W := by rw [hW]; exact (Below.refl _ _).alloc (Nat.le_refl _) _
  have e0 : W.cell? ⟨w.heap.size, 0, none⟩ = some (.bool n1) := by rw [hW]; simp [go_sem]
  have e2 : W.cell? ⟨w.heap.size, 2, none⟩ = some (.bool n2) := by rw [hW]; simp [go_sem]
  have e3 : W.cell? ⟨w.heap.size, 3, none⟩ = some (.slice a2 l2 c2) := by rw [hW]; simp [go_sem]
  have s1 := h1.sign hn
  replace h1 := h1.next hbW
  replace h2 := h2.next hbW
  have hpn : d = 0 → pN n d = n := fun e => by unfold pN; rw [if_neg (by omega)]
  cases n2 with
  | false =>
    have hd0 : 0 ≤ d := by
      obtain ⟨neg, a', cap, ds, hv, hr, hz, hl⟩ := h2
      simp at hv
      obtain ⟨rfl, rfl, rfl, rfl⟩ := hv
      have h0 := val_nonneg (B := 4294967296) (by decide) hr.words
      simp [num] at hz
      omega
    have hfin : Hid (decide (pN n d < 0) = n1) := by
      show _ = _
      unfold pN
      rw [if_neg (by omega), s1]
    clear hpn s1
    go_enter Tryz.func56, Tryz.ntmps56
    go_upto_region 1 with fail
    rw [← hW]
    clear hW
    go_wp2
    go_ret
    exact ⟨by rw [hfin.out]; cases n1 <;> rfl, hbW⟩
  | true =>
    have hd0 : d ≤ 0 := by
      obtain ⟨neg, a', cap, ds, hv, hr, hz, hl⟩ := h2
      simp at hv
      obtain ⟨rfl, rfl, rfl, rfl⟩ := hv
      have h0 := val_nonneg (B := 4294967296) (by decide) hr.words
      simp [num] at hz
      omega
    have k1 := Bits_num h2 hm
    replace k1 : Hid _ := k1
    by_cases hd : d = 0
    · have hfin : Hid (decide (pN n d < 0) = n1) := by
        show _ = _
        rw [hpn hd, s1]
      clear hpn s1
      go_enter Tryz.func56, Tryz.ntmps56
      go_upto_region 1 with fail
      rw [← hW]
      clear hW
      go_wp2_with fail
      refine Calls.mono k1.out ?_
      rintro e w1 ⟨L, rfl, hL, b1⟩
      clear k1
      have hL0 : L = 0 := (hL.zero (by omega)).2 (by omega)
      subst hL0
      replace e0 := keep_cell b1 e0
      clear hL
      go_wp2
      go_ret
      exact ⟨by rw [hfin.out]; cases n1 <;> rfl, bthen hbW b1⟩
    · have hfin : Hid (decide (pN n d < 0) = !n1) := by
        show _ = _
        unfold pN
        rw [if_pos (by omega), s1]
        by_cases h : n < 0 <;> simp [h] <;> omega
      clear hpn s1
      go_enter Tryz.func56, Tryz.ntmps56
      go_upto_region 1 with fail
      rw [← hW]
      clear hW
      go_wp2_with fail
      refine Calls.mono k1.out ?_
      rintro e w1 ⟨L, rfl, hL, b1⟩
      clear k1
      have hL0 : ¬ (L = 0) := fun e => hd (by have := (hL.zero (by omega)).1 e; omega)
      have hL1 : ((L : Int) == 0) = false := by simpa using hL0
      have hL2 : ((L : Int) != 0) = true := by rw [bne, hL1]; rfl
      replace e0 := keep_cell b1 e0
      clear hL hL0
      go_wp2
      go_ret
      exact ⟨by rw [hfin.out]; cases n1 <;> rfl, bthen hbW b1⟩
end Go.Proofs.YtmpefgemlpnbiaaGreat
namespace Go.Proofs.YtmpefgemlpnbiaaGreat
set_option linter.unusedVariables false
open Go.RowKit
attribute [local go_sem ↓] Go.wp_at_zero Go.wp_at_succ
/-- The bits, without the sign, of the float nearest to y over z. -/
def RoundIs (y z dg least most inf r : Int) : Prop :=
  (y = 0 → r = 0) ∧ (y ≠ 0 → ∃ e, IsExp y z e ∧ (most < max (e - (dg - 1)) least → r = inf) ∧ (max (e - (dg - 1)) least ≤ most → r = (max (e - (dg - 1)) least - least) * 2 ^ (dg - 1).toNat + near (scN y (max (e - (dg - 1)) least)) (scD z (max (e - (dg - 1)) least))))
theorem scN_nonneg {y : Int} (h : 0 ≤ y) (c : Int) : 0 ≤ scN y c := by
  unfold scN
  split
  · exact Int.mul_nonneg h (Int.le_of_lt (two_pos _))
  · exact h
theorem scD_pos {z : Int} (h : 0 < z) (c : Int) : 0 < scD z c := by
  unfold scD
  split
  · exact h
  · exact Int.mul_pos h (two_pos _)
theorem sc_lt {y z e u : Int} {k : Nat} (hz : 0 < z) (h : IsExp y z e) (hu : e + 1 ≤ u + k) : scN y u < scD z u * 2 ^ k := by
  obtain ⟨T, h0, h1, h2⟩ := sc_up y z u (e.natAbs + u.natAbs) (by omega)
  rw [isExp_iff y z e (e.natAbs + u.natAbs) (by omega)] at h
  have h3 := h.2
  rw [← h2] at h3
  have h4 : z * 2 ^ ((((e.natAbs + u.natAbs : Nat) : Int) + e).toNat + 1) ≤ scD z u * 2 ^ k * T := by
    rw [Int.mul_right_comm, h1, Int.mul_assoc, ← Int.pow_add]
    exact Int.mul_le_mul_of_nonneg_left (pow_le2 (by omega)) (by omega)
  exact Int.lt_of_mul_lt_mul_right (Int.lt_of_lt_of_le h3 h4) (by omega)
theorem quo_lt {y z : Int} {B : Int} (hz : 0 < z) (h : y < z * B) : y / z < B := Int.ediv_lt_of_lt_mul hz (by rw [Int.mul_comm]; exact h)
theorem near_le {y z : Int} (hy : 0 ≤ y) (hz : 0 < z) : 0 ≤ near y z ∧ near y z ≤ y / z + 1 := by
  have := Int.ediv_nonneg hy (Int.le_of_lt hz)
  unfold near
  split <;> omega
theorem boxes_round (w : World) (n1 : Bool) (a1 : Option Addr) (l1 c1 : Nat) (n2 : Bool) (a2 : Option Addr) (l2 c2 : Nat) (dg least most inf : Int) : ∃ W, W = (w.alloc (.cells #[.bool n1, .slice a1 l1 c1, .bool n2, .slice a2 l2 c2] 26)).alloc (.cells #[.int .i64 dg, .int .i64 least, .int .i64 most, .int .u64 inf] 84) ∧ Below w.heap.size w W ∧
    (W.cell? ⟨w.heap.size, 0, none⟩ = some (.bool n1) ∧ W.cell? ⟨w.heap.size, 1, none⟩ = some (.slice a1 l1 c1) ∧ W.cell? ⟨w.heap.size, 2, none⟩ = some (.bool n2) ∧ W.cell? ⟨w.heap.size, 3, none⟩ = some (.slice a2 l2 c2)) ∧ (W.cell? ⟨w.heap.size + 1, 0, none⟩ = some (.int .i64 dg) ∧ W.cell? ⟨w.heap.size + 1, 1, none⟩ = some (.int .i64 least) ∧ W.cell? ⟨w.heap.size + 1, 2, none⟩ = some (.int .i64 most) ∧ W.cell? ⟨w.heap.size + 1, 3, none⟩ = some (.int .u64 inf)) := by
  refine ⟨_, rfl, ((Below.refl _ _).alloc (Nat.le_refl _) _).alloc (by simp) _, ⟨?_, ?_, ?_, ?_⟩, ⟨?_, ?_, ?_, ?_⟩⟩
  all_goals simp [go_sem, World.cell?_alloc_past]
theorem bits_of (v : Nat) (h : 0 < v) : ∃ L, 0 < L ∧ HasBits (v : Int) L := by
  refine ⟨v.log2 + 1, by omega, ?_, .inr ?_⟩
  · have := Nat.lt_log2_self (n := v)
    exact_mod_cast this
  · have := Nat.log2_self_le (n := v) (by omega)
    rw [Nat.add_sub_cancel]
    exact_mod_cast this
theorem exists_exp {y z : Int} {m : Nat} (hy : 0 < y) (hz : 0 < z) (by' : (y.natAbs : Int) < 4294967296 ^ m) (bz : (z.natAbs : Int) < 4294967296 ^ m) : ∃ x, IsExp y z x ∧ -(32 * m + 1 : Int) ≤ x ∧ x ≤ 32 * m + 1 := by
  obtain ⟨L, hL0, hL⟩ := bits_of y.natAbs (by omega)
  obtain ⟨M, hM0, hM⟩ := bits_of z.natAbs (by omega)
  have hL1 := bits_le hL by'
  have hM1 := bits_le hM bz
  obtain ⟨p1, p2⟩ := hL
  obtain ⟨q1, q2⟩ := hM
  rw [show (y.natAbs : Int) = y from by omega] at p1 p2
  rw [show (z.natAbs : Int) = z from by omega] at q1 q2
  have hg := isExp_guess (p2.resolve_left (by omega)) p1 hL0 (q2.resolve_left (by omega)) q1 hM0 _ rfl
  by_cases h : scN y ((L : Int) - M) < scD z ((L : Int) - M)
  · exact ⟨_, hg.2 h, by omega, by omega⟩
  · exact ⟨_, hg.1 (by omega), by omega, by omega⟩
theorem exponent_at {w : World} {u v : Value} {y z x : Int} {m : Nat} (hu : Num w u y m) (hv : Num w v z m) (hm : m ≤ 120) (hy : 0 < y) (hz : 0 < z) (hx : IsExp y z x) :
    Calls Tryz.prog 96 #[u, v] w fun e w' => e = .returned (.int .i64 x) ∧ Below w.heap.size w w' := by
  refine (exponent_num hu hv hm hy hz).mono ?_
  rintro e w' ⟨x', rfl, h, _, _, hb⟩
  rw [isExp_uniq hz h hx]
  exact ⟨rfl, hb⟩
def rd4V (b3 bq : Nat) (A B : Value) (x dg least U : Int) (t : Nat) (v : Value) (w : World) : Prop := match t with
  | 3 => v = .pointer (some ⟨b3, 0, none⟩)
  | 5 => v = .pointer (some ⟨bq, 0, none⟩)
  | 6 => v = .pointer (some ⟨bq + 1, 0, none⟩)
  | 7 => v = .int .i64 U
  | 17 => v = A
  | 18 => v = B
  | 19 => v = .int .i64 x
  | 20 => v = .pointer (some ⟨b3, 0, none⟩)
  | 21 => v = .int .i64 dg
  | 22 => v = .int .i64 (dg - 1)
  | 23 => v = .int .i64 (x - (dg - 1))
  | 24 => v = .pointer (some ⟨b3, 1, none⟩)
  | 25 => v = .int .i64 least
  | 26 => v = .int .i64 U
  | _ => True
theorem rd4V_next {b3 bq : Nat} {A B : Value} {x dg least U : Int} (t : Nat) (v : Value) (w w' : World) (hb : Below w.heap.size w w') (h : rd4V b3 bq A B x dg least U t v w) : rd4V b3 bq A B x dg least U t v w' := by
  unfold rd4V at h ⊢
  split at h <;> first | exact h | exact Num.next h hb | exact Frac.next h hb | exact OutE.next h hb | exact LowE.next h hb | exact Ptr2.next h hb | exact ⟨h.1, h.2.next hb⟩
theorem rd4V_chg {b3 bq : Nat} {A B : Value} {x dg least U : Int} (t : Nat) (v : Value) (w w' : World) (b : Nat) (hc : Chg b w w') (hb : Box2 w b) (hb' : Box2 w' b) (h : rd4V b3 bq A B x dg least U t v w) : rd4V b3 bq A B x dg least U t v w' := by
  unfold rd4V at h ⊢
  split at h <;> first | exact h | exact Num.chg h hc hb.noint | exact Frac.chg h hc hb.noint | exact OutE.chg h hc hb.noint | exact LowE.chg h hc hb.noint | exact Ptr2.chg h hc (fun _ => hb') | exact ⟨h.1, h.2.chg hc hb'⟩
def rd4C (b3 bq : Nat) (A B : Value) (x dg least U : Int) (j b : Nat) (w : World) : Prop := match j with
  | _ => True
theorem rd4C_next {b3 bq : Nat} {A B : Value} {x dg least U : Int} (j b : Nat) (w w' : World) (hb : Below w.heap.size w w') (_ : b < w.heap.size) (h : rd4C b3 bq A B x dg least U j b w) : rd4C b3 bq A B x dg least U j b w' := by
  unfold rd4C at h ⊢
  split at h <;> first | exact h | exact Holds2.next h hb (fun v k => k.next hb)
theorem rd4C_chg {b3 bq : Nat} {A B : Value} {x dg least U : Int} (j b b' : Nat) (w w' : World) (hc : Chg b' w w') (hb : Box2 w b') (_ : Box2 w' b') (hne : b ≠ b') (h : rd4C b3 bq A B x dg least U j b w) : rd4C b3 bq A B x dg least U j b w' := by
  unfold rd4C at h ⊢
  split at h <;> first | exact h | exact Holds2.chg h hc hne (fun v k => k.chg hc hb.noint)
set_option maxRecDepth 20000 in
set_option maxHeartbeats 4000000 in
theorem round_num {w : World} {v : Value} {n d : Int} {m : Nat} (hv : Frac w v n d m) (hm : m ≤ 110) (dg least most inf : Int) (h1 : 1 ≤ dg) (h2 : dg ≤ 53) (h3 : -1074 ≤ least) (h4 : least ≤ 0) (h5 : 0 ≤ most) (h6 : most ≤ 971) (h7 : 0 ≤ inf) (h8 : inf < 18446744073709551616) :
    Calls Tryz.prog 55 #[v, .agg #[.int .i64 dg, .int .i64 least, .int .i64 most, .int .u64 inf]] w fun e w' => ∃ r : Int, e = .returned (.int .u64 r) ∧ RoundIs (n.natAbs : Int) (dA d) dg least most inf r ∧ Below w.heap.size w w' := by
  obtain ⟨n1, a1, l1, c1, n2, a2, l2, c2, rfl⟩ := hv.form
  obtain ⟨W, hW, hbW, ⟨e0, e1, e2, e3⟩, ⟨g0, g1, g2, g3⟩⟩ := boxes_round w n1 a1 l1 c1 n2 a2 l2 c2 dg least most inf
  have k1 := magnitudes_num (hv.next hbW) (by omega)
  replace k1 : Hid _ := k1
  have hDp := dA_pos d
  have hNp : (0 : Int) ≤ (n.natAbs : Int) := by omega
  generalize (n.natAbs : Int) = N at *
  generalize dA d = D at *
  go_enter Tryz.func55, Tryz.ntmps55
  go_upto_region 1 with fail
  rw [← hW]
  clear hW
  go_wp2_with fail
  refine Calls.mono k1.out ?_
  rintro e w1 ⟨s, t, rfl, hN, hD, b1⟩
  clear k1
  obtain ⟨n3, a3, l3, c3, rfl⟩ := hN.form
  obtain ⟨n4, a4, l4, c4, rfl⟩ := hD.form
  obtain ⟨W1, hW1, b2, ⟨p0, p1⟩, ⟨p2, p3⟩⟩ := boxes_quo w1 n3 a3 l3 c3 n4 a4 l4 c4
  have b12 := bthen b1 b2
  replace g0 := keep_cell b12 g0
  replace g1 := keep_cell b12 g1
  replace g2 := keep_cell b12 g2
  replace g3 := keep_cell b12 g3
  replace hN := hN.next b2
  replace hD := hD.next b2
  have hB := bthen hbW b12
  clear hv e0 e1 e2 e3 hbW b1 b2 b12
  have k2 := Bits_num hN (by omega)
  replace k2 : Hid _ := k2
  go_upto_region 2 with fail
  rw [← hW1]
  clear hW1
  generalize w1.heap.size = bq at *
  go_wp2_with fail
  refine Calls.mono k2.out ?_
  rintro e w2 ⟨L, rfl, hL, b3⟩
  clear k2
  replace g0 := keep_cell b3 g0
  replace g1 := keep_cell b3 g1
  replace g2 := keep_cell b3 g2
  replace g3 := keep_cell b3 g3
  replace p0 := keep_cell b3 p0
  replace p1 := keep_cell b3 p1
  replace p2 := keep_cell b3 p2
  replace p3 := keep_cell b3 p3
  replace hN := hN.next b3
  replace hD := hD.next b3
  have hB := bthen hB b3
  clear b3
  have hz := hL.zero (by omega)
  by_cases hn0 : N = 0
  · have hL0 : L = 0 := hz.2 (by omega)
    subst hL0
    clear hL hz
    go_wp2
    go_ret
    exact ⟨0, rfl, ⟨fun _ => rfl, fun h => absurd hn0 h⟩, hB⟩
  · have hL0 : ¬ ((L : Int) = 0) := fun e => hn0 (by have := hz.1 (by omega); omega)
    have hL1 : ((L : Int) == 0) = false := by simpa using hL0
    clear hL hz hL0
    have hD0 : Below w2.heap.size w2 w2.drew := (Below.refl _ _).drew
    go_upto_region 4 with fail
    obtain ⟨x, hx, hx0, hx1⟩ := exists_exp (by omega) hDp hN.bound hD.bound
    replace hx : Hid _ := hx
    obtain ⟨U, hU⟩ : ∃ U, U = max (x - (dg - 1)) least := ⟨_, rfl⟩
    have hU0 : U ≤ 4000 ∧ -1074 ≤ U ∧ least ≤ U ∧ x - (dg - 1) ≤ U := by omega
    have hmx : Hid ((if x - (dg - 1) < least then least else x - (dg - 1)) = U) := by show _ = _; split <;> omega
    replace hU : Hid _ := hU
    have hw1 : IntKind.i64.wrap (dg - 1) = dg - 1 := by rw [IntKind.wrap_i64]; omega
    have hw2 : IntKind.i64.wrap (x - (dg - 1)) = x - (dg - 1) := by rw [IntKind.wrap_i64]; omega
    go_cut [7] from 10 (fun p wc => p = .int .i64 U ∧ Below w2.heap.size w2 wc)
    case first =>
      rename_i J K' hJ hK'
      have lw : ∀ {w' : World}, BelowBut [] w2 w' → Below w2.heap.size w2 w' := fun hW => hW.below (Nat.le_refl _) (by intro k hk; cases hk)
      refine wp_region_boxes (rd4V (w.heap.size + 1) bq (.agg #[.bool n3, .slice a3 l3 c3]) (.agg #[.bool n4, .slice a4 l4 c4]) x dg least U) Box2 (rd4C (w.heap.size + 1) bq (.agg #[.bool n3, .slice a3 l3 c3]) (.agg #[.bool n4, .slice a4 l4 c4]) x dg least U) [3, 5, 6] [] [] [] 51 (by kernel_rfl) (by kernel_rfl) rfl rd4V_next rd4V_chg ?hA rd4C_next rd4C_chg ?hstart ?hdis (StepsFrom.all ?hstep) ?hend
      case hA => intro s v w' hs hv; cases hs
      case hstart =>
        intro t ht
        simp only [List.mem_cons, List.not_mem_nil, or_false] at ht
        rcases ht with rfl | rfl | rfl <;> rfl
      case hdis => intro s t hs ht hne h1 _; cases hs
      case hstep =>
        refine ⟨?s0, ?s1, ?s2, ?s3, ?s4, ?s5, ?s6, ?s7, ?s8, ?s9, ?s10, trivial⟩
        case s0 => exact plain_at (plain_of (guard_none rfl) fun b w' _ hW hl K hK => ld24 (hW.cell p0 (by simp; try omega)) (hW.cell p1 (by simp; try omega)) 5 rfl (look hl 5 (by kernel_rfl)) (hK _ _ (Below.refl _ _) (dst_eq rfl rfl))) (dst_eq rfl rfl) rfl
        case s1 => exact plain_at (plain_of (guard_none rfl) fun b w' _ hW hl K hK => ld24 (hW.cell p2 (by simp; try omega)) (hW.cell p3 (by simp; try omega)) 6 rfl (look hl 6 (by kernel_rfl)) (hK _ _ (Below.refl _ _) (dst_eq rfl rfl))) (dst_eq rfl rfl) rfl
        case s2 => exact plain_at (pl_call2 96 17 18 19 _ (by kernel_rfl) rfl rfl (guard_none rfl) (by kernel_rfl) (by kernel_rfl) (fun u v w' hW hu hv => by subst hu; subst hv; exact (exponent_at (hN.next (lw hW)) (hD.next (lw hW)) (by omega) (by omega) hDp hx.out).mono fun e w'' h => ⟨_, h.1, rfl, h.2⟩)) (dst_eq rfl rfl) rfl
        case s3 => exact plain_at (plain_of (guard_none rfl) fun b w' hsz hW hl K hK => by clear hsz; have e3 : b.tmps[3]?.getD undef = .pointer (some ⟨w.heap.size + 1, 0, none⟩) := getDx (look hl 3 (by kernel_rfl)); unfold Oper.wp; go_simp; exact hK _ _ (Below.refl _ _) (dst_eq rfl rfl)) (dst_eq rfl rfl) rfl
        case s4 => exact plain_at (plain_of (guard_none rfl) fun b w' hsz hW hl K hK => by clear hsz; have e20 : b.tmps[20]?.getD undef = .pointer (some ⟨w.heap.size + 1, 0, none⟩) := getDx (look hl 20 (by kernel_rfl)); have k0 := hW.cell g0 (by simp); unfold Oper.wp; go_simp; exact hK _ _ (Below.refl _ _) (dst_eq rfl rfl)) (dst_eq rfl rfl) rfl
        case s5 => exact plain_at (plain_of (guard_none rfl) fun b w' hsz hW hl K hK => by clear hsz; have e21 : b.tmps[21]?.getD undef = .int .i64 dg := getDx (look hl 21 (by kernel_rfl)); unfold Oper.wp; go_simp; exact hK _ _ (Below.refl _ _) (dst_eq rfl rfl)) (dst_eq rfl rfl) rfl
        case s6 => exact plain_at (plain_of (guard_none rfl) fun b w' hsz hW hl K hK => by clear hsz; have e19 : b.tmps[19]?.getD undef = .int .i64 x := getDx (look hl 19 (by kernel_rfl)); have e22 : b.tmps[22]?.getD undef = .int .i64 (dg - 1) := getDx (look hl 22 (by kernel_rfl)); unfold Oper.wp; go_simp; exact hK _ _ (Below.refl _ _) (dst_eq rfl rfl)) (dst_eq rfl rfl) rfl
        case s7 => exact plain_at (plain_of (guard_none rfl) fun b w' hsz hW hl K hK => by clear hsz; have e3 : b.tmps[3]?.getD undef = .pointer (some ⟨w.heap.size + 1, 0, none⟩) := getDx (look hl 3 (by kernel_rfl)); unfold Oper.wp; go_simp; exact hK _ _ (Below.refl _ _) (dst_eq rfl rfl)) (dst_eq rfl rfl) rfl
        case s8 => exact plain_at (plain_of (guard_none rfl) fun b w' hsz hW hl K hK => by clear hsz; have e24 : b.tmps[24]?.getD undef = .pointer (some ⟨w.heap.size + 1, 1, none⟩) := getDx (look hl 24 (by kernel_rfl)); have k0 := hW.cell g1 (by simp); unfold Oper.wp; go_simp; exact hK _ _ (Below.refl _ _) (dst_eq rfl rfl)) (dst_eq rfl rfl) rfl
        case s9 => exact plain_at (plain_of (guard_none rfl) fun b w' hsz hW hl K hK => by clear hsz; have e23 : b.tmps[23]?.getD undef = .int .i64 (x - (dg - 1)) := getDx (look hl 23 (by kernel_rfl)); have e25 : b.tmps[25]?.getD undef = .int .i64 least := getDx (look hl 25 (by kernel_rfl)); unfold Oper.wp; go_simp; rw [hmx.out]; exact hK _ _ (Below.refl _ _) (dst_eq rfl rfl)) (dst_eq rfl rfl) rfl
        case s10 => exact plain_at (pl_move 26 7 (.inr rfl) rfl (guard_none rfl) (by kernel_rfl) (fun v w h => h)) (dst_eq rfl rfl) rfl
      case hend =>
        rintro ⟨tm, df⟩ w' hs hd hW hv hdis hC hfr
        have e7 : tm.getD 7 undef = .int .i64 U := hv 7 (.inr ⟨10, _, rfl, rfl⟩)
        obtain ⟨xs', htm, hxs⟩ := frame_mixed hfr hs
        have x7 : xs'.getD 7 undef = .int .i64 U := (hxs 7).trans e7
        have hWb := lw hW
        clear hxs hv hdis hC hfr e7
        subst htm
        obtain rfl := hd
        refine hK' _ _ (Met.intro (hJ _ _ ?_))
        (repeat apply Exists.intro)
        refine ⟨?rel, rfl⟩
        case rel => exact ⟨x7, hWb⟩
    case rest =>
      obtain ⟨rfl, hb5⟩ := hcut
      generalize wc = W3 at *
      replace g0 := keep_cell hb5 g0
      replace g1 := keep_cell hb5 g1
      replace g2 := keep_cell hb5 g2
      replace g3 := keep_cell hb5 g3
      replace p0 := keep_cell hb5 p0
      replace p1 := keep_cell hb5 p1
      replace p2 := keep_cell hb5 p2
      replace p3 := keep_cell hb5 p3
      replace hN := hN.next hb5
      replace hD := hD.next hb5
      have hB := bthen hB hb5
      clear hb5 hD0
      by_cases hbig : most < U
      · have hR : Hid (RoundIs N D dg least most inf inf) := by
          refine ⟨fun h => absurd h hn0, fun _ => ⟨x, hx.out, fun _ => rfl, fun h => ?_⟩⟩
          rw [← hU.out] at h
          omega
        clear hx hU hw2
        go_wp2
        go_ret
        exact ⟨inf, rfl, hR.out, hB⟩
      · have hs0 := scN_nonneg hNp U
        have hs1 := scD_pos hDp U
        have hlt := sc_lt (k := 53) hDp hx.out (u := U) (by omega)
        have hq := quo_lt hs1 hlt
        have hnr := near_le hs0 hs1
        have hq2 : scN N U / scD D U < 9007199254740992 := by simpa using hq
        have hR : Hid (RoundIs N D dg least most inf ((U - least) * 2 ^ (dg - 1).toNat + near (scN N U) (scD D U))) := by
          refine ⟨fun h => absurd h hn0, fun _ => ⟨x, hx.out, fun h => ?_, fun h => ?_⟩⟩
          · rw [← hU.out] at h
            omega
          · rw [← hU.out]
        have k5 := scale_num hN hD (by omega) U (by omega) (by omega)
        replace k5 : Hid _ := k5
        have hp : (2 : Int) ^ (dg - 1).toNat ≤ 2 ^ 52 := pow_le2 (by omega)
        have hp0 := two_pos (dg - 1).toNat
        have hpm : (U - least) * 2 ^ (dg - 1).toNat ≤ 2045 * 4503599627370496 := by
          have a1 : (U - least) * 2 ^ (dg - 1).toNat ≤ 2045 * 2 ^ (dg - 1).toNat := Int.mul_le_mul_of_nonneg_right (by omega) (by omega)
          have a2 : (2045 : Int) * 2 ^ (dg - 1).toNat ≤ 2045 * 2 ^ 52 := Int.mul_le_mul_of_nonneg_left hp (by decide)
          simp at a2
          omega
        have hpm0 : 0 ≤ (U - least) * 2 ^ (dg - 1).toNat := Int.mul_nonneg (by omega) (by omega)
        have hsh : Op.shift .shl .u64 (U - least) .i64 (dg - 1) = pure (.int .u64 ((U - least) * 2 ^ (dg - 1).toNat)) := by
          rw [shift_shl .u64 .i64 _ _ (by omega) (by show _ ≤ ((64 : Nat) : Int); omega), IntKind.wrap_u64]
          congr 2
          omega
        have hsp : (U - least) * 2 ^ (dg.toNat - 1) = (U - least) * 2 ^ (dg - 1).toNat := by congr 2; omega
        generalize (U - least) * 2 ^ (dg - 1).toNat = S at *
        have hw6 : IntKind.u64.wrap S = S := by rw [IntKind.wrap_u64]; omega
        clear hx hU hw2 hp hp0 hlt hq
        have hw3 : IntKind.i64.wrap (U - least) = U - least := by rw [IntKind.wrap_i64]; omega
        have hw4 : IntKind.u64.wrap (U - least) = U - least := by rw [IntKind.wrap_u64]; omega
        go_upto_region 7 with fail
        go_wp2_with fail
        refine Calls.mono k5.out ?_
        rintro e w6 ⟨s, t, rfl, hS, hT, b6⟩
        clear k5
        have k6 := nearest_num hS hT (by omega) hs0 hs1 (by omega)
        generalize near (scN N U) (scD D U) = Z at *
        generalize scN N U / scD D U = Y at *
        replace k6 : Hid _ := k6
        replace g0 := keep_cell b6 g0
        replace g1 := keep_cell b6 g1
        have hB := bthen hB b6
        clear hS hT hN hD p0 p1 p2 p3 g2 g3
        go_wp2_with fail
        refine Calls.mono k6.out ?_
        rintro e w7 ⟨rfl, b7⟩
        clear k6
        replace g0 := keep_cell b7 g0
        replace g1 := keep_cell b7 g1
        have hB := bthen hB b7
        have hw5 : IntKind.u64.wrap (S + Z) = S + Z := by rw [IntKind.wrap_u64]; omega
        go_wp2
        go_ret
        exact ⟨S + Z, rfl, hR.out, hB⟩
end Go.Proofs.YtmpefgemlpnbiaaGreat
namespace Go.Proofs.YtmpefgemlpnbiaaGreat
set_option linter.unusedVariables false
open Go.RowKit
attribute [local go_sem ↓] Go.wp_at_zero Go.wp_at_succ
theorem roundIs_bound {y z dg least most inf r : Int} (hy : 0 ≤ y) (hz : 0 < z) (h1 : 1 ≤ dg) (hl : least ≤ most) (hi : 0 ≤ inf) (h : RoundIs y z dg least most inf r) : 0 ≤ r ∧ (r ≤ inf ∨ r ≤ (most - least + 2) * 2 ^ (dg - 1).toNat) := by
  by_cases h0 : y = 0
  · have := h.1 h0
    omega
  · obtain ⟨e, he, hb, hs⟩ := h.2 h0
    have hp0 := two_pos (dg - 1).toNat
    generalize hU : max (e - (dg - 1)) least = U at *
    by_cases hc : most < U
    · have := hb hc
      omega
    · have hr := hs (by omega)
      have hs0 := scN_nonneg hy U
      have hs1 := scD_pos hz U
      have hlt := sc_lt (k := (dg - 1).toNat + 1) hz he (u := U) (by omega)
      have hq := quo_lt hs1 hlt
      have hnr := near_le hs0 hs1
      rw [Int.pow_succ] at hq
      have ha : (U - least) * 2 ^ (dg - 1).toNat ≤ (most - least) * 2 ^ (dg - 1).toNat := Int.mul_le_mul_of_nonneg_right (by omega) (by omega)
      have hb0 : 0 ≤ (U - least) * 2 ^ (dg - 1).toNat := Int.mul_nonneg (by omega) (by omega)
      rw [show (most - least + 2) * 2 ^ (dg - 1).toNat = (most - least) * 2 ^ (dg - 1).toNat + 2 * 2 ^ (dg - 1).toNat from by rw [Int.add_mul]]
      omega
/-- The bits of a float64 without its sign; of a float32. -/
def R64 (n d r : Int) : Prop := RoundIs (n.natAbs : Int) (dA d) 53 (-1074) 971 9218868437227405312 r
def R32 (n d r : Int) : Prop := RoundIs (n.natAbs : Int) (dA d) 24 (-149) 104 2139095040 r
theorem R64.bound {n d r : Int} (h : R64 n d r) : 0 ≤ r ∧ r ≤ 9218868437227405312 := by
  have := roundIs_bound (by omega) (dA_pos d) (by decide) (by decide) (by decide) h
  refine ⟨this.1, ?_⟩
  rcases this.2 with h | h
  · exact h
  · exact h
theorem R32.bound {n d r : Int} (h : R32 n d r) : 0 ≤ r ∧ r ≤ 2139095040 := by
  have := roundIs_bound (by omega) (dA_pos d) (by decide) (by decide) (by decide) h
  refine ⟨this.1, ?_⟩
  rcases this.2 with h | h
  · exact h
  · exact h
theorem R64.zero {d r : Int} (h : R64 0 d r) : r = 0 := h.1 rfl
theorem R32.zero {d r : Int} (h : R32 0 d r) : r = 0 := h.1 rfl
/-- With its sign. -/
def sgn64 (n d : Int) (k : Nat) : Nat := if k ≠ 0 ∧ pN n d < 0 then k + 9223372036854775808 else k
def sgn32 (n d : Int) (k : Nat) : Nat := if k ≠ 0 ∧ pN n d < 0 then k + 2147483648 else k
set_option maxRecDepth 20000 in
set_option maxHeartbeats 4000000 in
theorem Round64_num {w : World} {v : Value} {n d : Int} {m : Nat} (hv : Frac w v n d m) (hm : m ≤ 110) :
    Calls Tryz.prog 15 #[v] w fun e w' => ∃ k : Nat, e = .returned (.float .f64 (sgn64 n d k)) ∧ R64 n d k ∧ Below w.heap.size w w' := by
  obtain ⟨n1, a1, l1, c1, n2, a2, l2, c2, rfl⟩ := hv.form
  obtain ⟨W, hW, hbW, _, e0, e1, e2, e3⟩ := box_text w n1 a1 l1 c1 n2 a2 l2 c2
  replace hv := hv.next hbW
  have k1 := round_num hv hm 53 (-1074) 971 9218868437227405312 (by decide) (by decide) (by decide) (by decide) (by decide) (by decide) (by decide) (by decide)
  replace k1 : Hid _ := k1
  have hf := from64
  go_enter Tryz.func15, Tryz.ntmps15
  go_upto_region 1 with fail
  rw [← hW]
  clear hW
  go_wp2_with fail
  refine Calls.mono k1.out ?_
  rintro e w1 ⟨r, rfl, hR, b1⟩
  clear k1
  replace hR : R64 n d r := hR
  have hbd := hR.bound
  obtain ⟨k, rfl⟩ : ∃ k : Nat, r = (k : Int) := ⟨r.toNat, by omega⟩
  replace e0 := keep_cell b1 e0
  replace e1 := keep_cell b1 e1
  replace e2 := keep_cell b1 e2
  replace e3 := keep_cell b1 e3
  replace hv := hv.next b1
  have hB := bthen hbW b1
  clear hbW b1
  by_cases hk : k = 0
  · subst hk
    replace hR : Hid _ := hR
    go_wp2
    go_ret
    exact ⟨0, by simp [sgn64], hR.out, hB⟩
  · have hn0 : n ≠ 0 := fun e => hk (by subst e; have := hR.zero; omega)
    have hk1 : ((k : Int) == 0) = false := by simpa using hk
    have hk2 : ((k : Int) != 0) = true := by rw [bne, hk1]; rfl
    obtain ⟨q1, q2⟩ : Num w1 (.agg #[.bool n1, .slice a1 l1 c1]) n m ∧ Num w1 (.agg #[.bool n2, .slice a2 l2 c2]) d m := by
      obtain ⟨_, _, _, _, _, _, _, _, he, h1, h2⟩ := hv
      cases he
      exact ⟨h1, h2⟩
    have k2 := isBelow_num q1 q2 (by omega) hn0
    replace k2 : Hid _ := k2
    have ho := bor_top k (by omega)
    rw [Nat.mod_eq_of_lt (by omega)] at ho
    replace hR : Hid _ := hR
    have hp : Hid (∀ b : Bool, decide (pN n d < 0) = b → sgn64 n d k = if b then k + 9223372036854775808 else k) := by
      intro b hb
      unfold sgn64
      cases b with
      | true => rw [if_pos ⟨hk, by simpa using hb⟩]; rfl
      | false => rw [if_neg (by simp at hb; omega)]; rfl
    generalize hb : decide (pN n d < 0) = b at *
    replace hb : Hid _ := hb
    go_wp2_with fail
    refine Calls.mono k2.out ?_
    rintro e w2 ⟨rfl, b2⟩
    clear k2
    have hBf := bthen hB b2
    cases b with
    | true =>
      go_wp2
      go_ret
      exact ⟨k, by rw [hp.out true rfl]; rfl, hR.out, hBf⟩
    | false =>
      go_wp2
      go_ret
      exact ⟨k, by rw [hp.out false rfl]; rfl, hR.out, hBf⟩
theorem bor_31 (k : Nat) (h : k < 2147483648) : bits .or .u32 (k : Int) 2147483648 = ((k + 2147483648 : Nat) : Int) := by
  have h1 : (BitVec.ofInt 32 (k : Int)).toNat = k := by
    rw [BitVec.ofInt_natCast, BitVec.toNat_ofNat]; exact Nat.mod_eq_of_lt (by omega)
  have h2 : (BitVec.ofInt 32 2147483648).toNat = 2 ^ 31 := by decide
  show IntKind.u32.wrap ((BitVec.ofInt 32 (k : Int) ||| BitVec.ofInt 32 2147483648).toNat : Int) = _
  rw [BitVec.toNat_or, h1, h2, Nat.or_comm]
  have h3 := Nat.two_pow_add_eq_or_of_lt (i := 31) (b := k) (by simpa using h) 1
  rw [Nat.mul_one] at h3
  rw [← h3, IntKind.wrap_u32]
  omega
set_option maxRecDepth 20000 in
set_option maxHeartbeats 4000000 in
theorem Round32_num {w : World} {v : Value} {n d : Int} {m : Nat} (hv : Frac w v n d m) (hm : m ≤ 110) :
    Calls Tryz.prog 17 #[v] w fun e w' => ∃ k : Nat, e = .returned (.float .f32 (sgn32 n d k)) ∧ R32 n d k ∧ Below w.heap.size w w' := by
  obtain ⟨n1, a1, l1, c1, n2, a2, l2, c2, rfl⟩ := hv.form
  obtain ⟨W, hW, hbW, _, e0, e1, e2, e3⟩ := box_text w n1 a1 l1 c1 n2 a2 l2 c2
  replace hv := hv.next hbW
  have k1 := round_num hv hm 24 (-149) 104 2139095040 (by decide) (by decide) (by decide) (by decide) (by decide) (by decide) (by decide) (by decide)
  replace k1 : Hid _ := k1
  have hf := from32
  go_enter Tryz.func17, Tryz.ntmps17
  go_upto_region 1 with fail
  rw [← hW]
  clear hW
  go_wp2_with fail
  refine Calls.mono k1.out ?_
  rintro e w1 ⟨r, rfl, hR, b1⟩
  clear k1
  replace hR : R32 n d r := hR
  have hbd := hR.bound
  obtain ⟨k, rfl⟩ : ∃ k : Nat, r = (k : Int) := ⟨r.toNat, by omega⟩
  have hwk : IntKind.u32.wrap (k : Int) = (k : Int) := by rw [IntKind.wrap_u32]; omega
  replace e0 := keep_cell b1 e0
  replace e1 := keep_cell b1 e1
  replace e2 := keep_cell b1 e2
  replace e3 := keep_cell b1 e3
  replace hv := hv.next b1
  have hB := bthen hbW b1
  clear hbW b1
  by_cases hk : k = 0
  · subst hk
    replace hR : Hid _ := hR
    go_wp2
    go_ret
    exact ⟨0, by simp [sgn32], hR.out, hB⟩
  · have hn0 : n ≠ 0 := fun e => hk (by subst e; have := hR.zero; omega)
    have hk1 : ((k : Int) == 0) = false := by simpa using hk
    have hk2 : ((k : Int) != 0) = true := by rw [bne, hk1]; rfl
    obtain ⟨q1, q2⟩ : Num w1 (.agg #[.bool n1, .slice a1 l1 c1]) n m ∧ Num w1 (.agg #[.bool n2, .slice a2 l2 c2]) d m := by
      obtain ⟨_, _, _, _, _, _, _, _, he, h1, h2⟩ := hv
      cases he
      exact ⟨h1, h2⟩
    have k2 := isBelow_num q1 q2 (by omega) hn0
    replace k2 : Hid _ := k2
    have ho := bor_31 k (by omega)
    replace hR : Hid _ := hR
    have hp : Hid (∀ b : Bool, decide (pN n d < 0) = b → sgn32 n d k = if b then k + 2147483648 else k) := by
      intro b hb
      unfold sgn32
      cases b with
      | true => rw [if_pos ⟨hk, by simpa using hb⟩]; rfl
      | false => rw [if_neg (by simp at hb; omega)]; rfl
    generalize hb : decide (pN n d < 0) = b at *
    replace hb : Hid _ := hb
    go_wp2_with fail
    refine Calls.mono k2.out ?_
    rintro e w2 ⟨rfl, b2⟩
    clear k2
    have hBf := bthen hB b2
    cases b with
    | true =>
      go_wp2
      go_ret
      exact ⟨k, by rw [hp.out true rfl]; rfl, hR.out, hBf⟩
    | false =>
      go_wp2
      go_ret
      exact ⟨k, by rw [hp.out false rfl]; rfl, hR.out, hBf⟩
end Go.Proofs.YtmpefgemlpnbiaaGreat
namespace Go.Proofs.YtmpefgemlpnbiaaGreat
set_option linter.unusedVariables false
open Go.RowKit
attribute [local go_sem ↓] Go.wp_at_zero Go.wp_at_succ
/-- A float below infinity is count times 2^unit. -/
def dgC (s : Nat) : Nat := if s / 4503599627370496 = 0 then s % 4503599627370496 else 4503599627370496 + s % 4503599627370496
def dgU (s : Nat) : Int := if s / 4503599627370496 = 0 then -1074 else (s / 4503599627370496 : Nat) - 1 + -1074
theorem dgC_lt (s : Nat) : dgC s < 9007199254740992 := by unfold dgC; split <;> omega
theorem dgU_lt (s : Nat) (h : s < 9218868437227405312) : -1074 ≤ dgU s ∧ dgU s ≤ 971 := by unfold dgU; split <;> omega
theorem bor_52 (f : Nat) (h : f < 4503599627370496) : bits .or .u64 4503599627370496 (f : Int) = ((4503599627370496 + f : Nat) : Int) := by
  have h1 := bits_or_u64_nat 4503599627370496 f (by decide) (by omega)
  have h3 := Nat.two_pow_add_eq_or_of_lt (i := 52) (b := f) (by simpa using h) 1
  rw [Nat.mul_one] at h3
  rw [show (4503599627370496 : Nat) = 2 ^ 52 from by decide, ← h3] at h1
  exact h1
set_option maxRecDepth 20000 in
theorem digits_any (s : Nat) (w : World) (hs : s < 9223372036854775808) : Calls Tryz.prog 64 #[.int .u64 s] w fun e w' => e = .returned (.tuple #[.int .u64 (dgC s), .int .i64 (dgU s)]) ∧ w' = w := by
  have hq : (s : Int).tdiv 4503599627370496 = ((s / 4503599627370496 : Nat) : Int) := by rw [Int.tdiv_eq_ediv_of_nonneg (by omega)]; omega
  have hr : (s : Int).tmod 4503599627370496 = ((s % 4503599627370496 : Nat) : Int) := by rw [Int.tmod_eq_emod_of_nonneg (by omega)]; omega
  have hq2 : (s : Int) / 4503599627370496 = ((s / 4503599627370496 : Nat) : Int) := by omega
  have hr2 : (s : Int) % 4503599627370496 = ((s % 4503599627370496 : Nat) : Int) := by omega
  have hfl : s % 4503599627370496 < 4503599627370496 := Nat.mod_lt _ (by decide)
  have hel : s / 4503599627370496 < 2048 := by omega
  unfold dgC dgU
  have ho := bor_52 _ hfl
  generalize s / 4503599627370496 = x at *
  generalize s % 4503599627370496 = f at *
  have hw1 : IntKind.u64.wrap (x : Int) = x := by rw [IntKind.wrap_u64]; omega
  have hw2 : IntKind.i64.wrap (x : Int) = x := by rw [IntKind.wrap_i64]; omega
  have hw3 : IntKind.u64.wrap (f : Int) = f := by rw [IntKind.wrap_u64]; omega
  by_cases h : x = 0
  · subst h
    go_enter Tryz.func64, Tryz.ntmps64
    go_wp2
    go_ret2
    exact ⟨rfl, rfl⟩
  · rw [if_neg h, if_neg h]
    have h1 : ((x : Int) == 0) = false := by simpa using h
    have h2 : ¬ ((x : Int) = 0) := by omega
    go_enter Tryz.func64, Tryz.ntmps64
    go_wp2
    go_ret2
    exact ⟨rfl, rfl⟩
set_option maxRecDepth 20000 in
set_option maxHeartbeats 1000000 in
theorem number66 (neg : Bool) (c : Nat) (w : World) (hc : c < 18446744073709551616) : Calls Tryz.prog 66 #[.bool neg, .int .u64 c] w fun e w' => ∃ t, e = .returned t ∧ Num w' t (if neg then -(c : Int) else c) 2 ∧ Below w.heap.size w w' := by
  have h1 : IntKind.u32.wrap (c : Int) = ((c % 4294967296 : Nat) : Int) := by rw [IntKind.wrap_u32]; omega
  have h2 : (c : Int) / 4294967296 = ((c / 4294967296 : Nat) : Int) := by omega
  have hv : Hid ((c : Int) = ((c % 4294967296 : Nat) : Int) + 4294967296 * ((c / 4294967296 : Nat) : Int)) := by show _ = _; omega
  have hp : c % 4294967296 < 4294967296 := Nat.mod_lt _ (by decide)
  have hq : c / 4294967296 < 4294967296 := by omega
  generalize c % 4294967296 = p at *
  generalize c / 4294967296 = q at *
  have h3 : IntKind.u32.wrap (q : Int) = q := by rw [IntKind.wrap_u32]; omega
  obtain ⟨Z, hZ⟩ : ∃ Z : Int, Z = (if neg then -(c : Int) else c) := ⟨_, rfl⟩
  rw [← hZ]
  replace hZ : Hid _ := hZ
  obtain ⟨W, hW⟩ : ∃ W, W = (w.alloc (.cells #[.bool neg, .slice (some ⟨w.heap.size + 1, 0, none⟩) 2 2] 24)).alloc (.cells #[.int .u32 p, .int .u32 q] 47) := ⟨_, rfl⟩
  have hbW : Below w.heap.size w W := by rw [hW]; exact ((Below.refl _ _).alloc (Nat.le_refl _) _).alloc (by simp) _
  have hr : Row W .u32 4294967296 (some ⟨w.heap.size + 1, 0, none⟩) 2 [(p : Int), (q : Int)] := by
    have h := Row.alloc2 (w.alloc (.cells #[.bool neg, .slice (some ⟨w.heap.size + 1, 0, none⟩) 2 2] 24)) .u32 47 4294967296 (p : Int) (q : Int) (by omega) (by omega)
    rw [show (w.alloc (.cells #[.bool neg, .slice (some ⟨w.heap.size + 1, 0, none⟩) 2 2] 24)).heap.size = w.heap.size + 1 from by simp] at h
    rw [hW]
    exact h
  have hN : Hid (Num W (.agg #[.bool neg, .slice (some ⟨w.heap.size + 1, 0, none⟩) 2 2]) Z 2) := by
    refine ⟨neg, _, 2, [(p : Int), (q : Int)], rfl, hr, ?_, by simp⟩
    rw [hZ.out, hv.out]
    cases neg <;> simp [num, val]
  have j0 : W.cell? ⟨w.heap.size, 0, none⟩ = some (.bool neg) := by rw [hW]; simp [go_sem, World.cell?_alloc_past]
  have j1 : W.cell? ⟨w.heap.size, 1, none⟩ = some (.slice (some ⟨w.heap.size + 1, 0, none⟩) 2 2) := by rw [hW]; simp [go_sem, World.cell?_alloc_past]
  clear hr hv
  go_enter Tryz.func66, Tryz.ntmps66
  go_wp2
  rw [← hW]
  exact bodyPost_ret (v := .agg #[.bool neg, .slice (some ⟨w.heap.size + 1, 0, none⟩) 2 2]) (by simp [results, Tryz.results66, go_sem, j0, j1]) rfl ⟨_, rfl, hN.out, hbW⟩
/-- The fraction of a float: its parts, the second above zero. -/
def exN (b : Nat) : Int := scN (if decide (9223372036854775808 ≤ b) then -(dgC (b % 9223372036854775808) : Int) else dgC (b % 9223372036854775808)) (-dgU (b % 9223372036854775808))
def exD (b : Nat) : Int := scD 1 (-dgU (b % 9223372036854775808))
theorem exD_pos (b : Nat) : 0 < exD b := scD_pos (by decide) _
/-- Is it a number? -/
def exOk (b : Nat) : Bool := decide (b % 9223372036854775808 < 9218868437227405312)
def ExactAns (w : World) (t : Value) (b : Nat) : Prop := (b % 9223372036854775808 < 9218868437227405312 → LowE w t (exN b) (exD b) 140) ∧ (¬ b % 9223372036854775808 < 9218868437227405312 → LowE w t 0 1 140)
set_option maxRecDepth 20000 in
set_option maxHeartbeats 4000000 in
theorem Exact_num (b : Nat) (w : World) (hb : b < 18446744073709551616) : Calls Tryz.prog 29 #[.float .f64 b] w fun e w' => ∃ t, e = .returned (.tuple #[t, .bool (exOk b)]) ∧ ExactAns w' t b ∧ Below w.heap.size w w' := by
  have hc := bits64
  have h3 := bclr_top b hb
  have hsl : b % 9223372036854775808 < 9223372036854775808 := Nat.mod_lt _ (by decide)
  have hDp := exD_pos b
  have hok : Hid (exOk b = decide (b % 9223372036854775808 < 9218868437227405312)) := rfl
  have kn : Hid _ := isNeg_any b
  unfold exD at hDp
  have hAn : Hid (∀ V R, (b % 9223372036854775808 < 9218868437227405312 → LowE V R (scN (if decide (9223372036854775808 ≤ b) then -(dgC (b % 9223372036854775808) : Int) else dgC (b % 9223372036854775808)) (-dgU (b % 9223372036854775808))) (scD 1 (-dgU (b % 9223372036854775808))) 140) → (¬ b % 9223372036854775808 < 9218868437227405312 → LowE V R 0 1 140) → ExactAns V R b) := fun V R h1 h2 => ⟨h1, h2⟩
  generalize decide (9223372036854775808 ≤ b) = sg at *
  generalize b % 9223372036854775808 = s at *
  obtain ⟨W, hW⟩ : ∃ W, W = w.alloc (.cells #[.bool false, .slice none 0 0, .bool false, .slice none 0 0] 26) := ⟨_, rfl⟩
  have hbW : Below w.heap.size w W := by rw [hW]; exact (Below.refl _ _).alloc (Nat.le_refl _) _
  have x0 : Box4 W w.heap.size := by rw [hW]; exact Box4.new w false none 0 0 false none 0 0 26 (by decide)
  by_cases hs : s < 9218868437227405312
  · have d1 : decide ((s : Int) ≥ 9218868437227405312) = false := by simp; omega
    have d2 : Hid (decide (s < 9218868437227405312) = true) := by show _ = _; simpa using hs
    have hU := dgU_lt s hs
    have hC := dgC_lt s
    have kd : Hid (∀ w, Calls Tryz.prog 64 #[.int .u64 s] w fun e w' => e = .returned (.tuple #[.int .u64 (dgC s), .int .i64 (dgU s)]) ∧ w' = w) := fun w => digits_any s w hsl
    generalize dgC s = c at *
    generalize dgU s = u at *
    have hwu : IntKind.i64.wrap (-u) = -u := by rw [IntKind.wrap_i64]; omega
    go_enter Tryz.func29, Tryz.ntmps29
    go_upto_region 1 with fail
    rw [← hW]
    clear hW
    go_wp2_with fail
    refine Calls.mono (kd.out _) ?_
    rintro e w1 ⟨rfl, rfl⟩
    go_wp2_with fail
    refine Calls.mono (kn.out _ hb) ?_
    rintro e w2 ⟨rfl, rfl⟩
    go_wp2_with fail
    refine Calls.mono (number66 sg c _ (by omega)) ?_
    rintro e w3 ⟨t, rfl, hN, b3⟩
    go_wp2_with fail
    refine Calls.mono (Of_any 1 _ (by decide) (by decide)) ?_
    rintro e w4 ⟨t', rfl, hO, b4⟩
    replace hO := hO.num
    replace hN := hN.next b4
    generalize hz : (if sg = true then -(c : Int) else c) = z at *
    replace hz : Hid _ := hz
    go_wp2_with fail
    refine Calls.mono (scale_num hN hO (by decide) (-u) (by omega) (by omega)) ?_
    rintro e w5 ⟨s1, t1, rfl, hS, hT, b5⟩
    obtain ⟨n3, a3, l3, c3, rfl⟩ := hS.form
    obtain ⟨n4, a4, l4, c4, rfl⟩ := hT.form
    obtain ⟨W1, hW1, b6, ⟨p0, p1⟩, ⟨p2, p3⟩⟩ := boxes_quo w5 n3 a3 l3 c3 n4 a4 l4 c4
    have b36 := bthen (bthen b3 b4) (bthen b5 b6)
    replace hS := hS.next b6
    replace hT := hT.next b6
    have hB := bthen hbW b36
    replace x0 := x0.next b36
    clear hN hO b3 b4 b5 b6 b36 hbW
    go_upto_region 6 with fail
    rw [← hW1]
    clear hW1
    generalize w5.heap.size = bq at *
    go_wp2_with fail
    refine Calls.mono (Of26_num hS hT (by decide)) ?_
    rintro e w7 ⟨t, rfl, ⟨R, rfl, hR0, hR1⟩, b7⟩
    have hzd : scD 1 (-u) ≠ 0 := by omega
    have hR := hR1 hzd
    rw [pN_pos hDp, pD_of hDp] at hR
    obtain ⟨n5, a5, l5, c5, n6, a6, l6, c6, rfl⟩ := hR.form
    have hdt : decide (scD 1 (-u) ≠ 0) = true := by simpa using hzd
    rw [hdt]
    have y0 := x0.next b7
    obtain ⟨_, _, _, _, _, _, _, _, j0, j1, j2, j3, f⟩ := y0.cells
    have f0 := f 0
    have f1 := f 1
    have f2 := f 2
    have f3 := f 3
    clear f
    obtain ⟨V, hV, hch, hbx, v0, v1, v2, v3⟩ := put_one y0 n5 a5 l5 c5 n6 a6 l6 c6
    have hLE : Hid (LowE V (.agg #[.bool n5, .slice a5 l5 c5, .bool n6, .slice a6 l6 c6]) (scN z (-u)) (scD 1 (-u)) 140) := (hR.chg hch y0.noint).more (by decide)
    have hB7 := bthen hB b7
    have hBV : Below w.heap.size w V := hB7.trans (hch.below _ (Nat.le_refl _))
    clear hR hR0 hR1 hS hT hzd hdt hch hbx p0 p1 p2 p3 hwu kd kn hDp
    go_wp2
    rw [← hV]
    exact bodyPost_ret (v := .tuple #[.agg #[.bool n5, .slice a5 l5 c5, .bool n6, .slice a6 l6 c6], .bool true]) (by simp [results, Tryz.results29, go_sem, v0, v1, v2, v3]) rfl ⟨_, by rw [hok.out, d2.out], hAn.out V _ (fun _ => hLE.out) (fun h => absurd hs h), hBV⟩
  · have d1 : decide ((s : Int) ≥ 9218868437227405312) = true := by simp; omega
    have d2 : Hid (decide (s < 9218868437227405312) = false) := by show _ = _; simpa using hs
    clear kn hDp
    go_enter Tryz.func29, Tryz.ntmps29
    go_upto_region 1 with fail
    rw [← hW]
    clear hW
    go_wp2_with fail
    refine Calls.mono (Whole_num (m := 0) (n := 0) ⟨false, none, 0, [], rfl, Row.empty _ _ _, rfl, by simp⟩ (by decide)) ?_
    rintro e w7 ⟨R, rfl, hR, b7⟩
    obtain ⟨n5, a5, l5, c5, n6, a6, l6, c6, rfl⟩ := hR.form
    have y0 := x0.next b7
    obtain ⟨_, _, _, _, _, _, _, _, j0, j1, j2, j3, f⟩ := y0.cells
    have f0 := f 0
    have f1 := f 1
    have f2 := f 2
    have f3 := f 3
    clear f
    obtain ⟨V, hV, hch, hbx, v0, v1, v2, v3⟩ := put_one y0 n5 a5 l5 c5 n6 a6 l6 c6
    have hLE : Hid (LowE V (.agg #[.bool n5, .slice a5 l5 c5, .bool n6, .slice a6 l6 c6]) 0 1 140) := (hR.chg hch y0.noint).more (by decide)
    have hB7 := bthen hbW b7
    have hBV : Below w.heap.size w V := hB7.trans (hch.below _ (Nat.le_refl _))
    clear hR hch hbx
    go_wp2
    rw [← hV]
    exact bodyPost_ret (v := .tuple #[.agg #[.bool n5, .slice a5 l5 c5, .bool n6, .slice a6 l6 c6], .bool false]) (by simp [results, Tryz.results29, go_sem, v0, v1, v2, v3]) rfl ⟨_, by rw [hok.out, d2.out], hAn.out V _ (fun h => absurd h hs) (fun _ => hLE.out), hBV⟩
end Go.Proofs.YtmpefgemlpnbiaaGreat
namespace Go.Proofs.YtmpefgemlpnbiaaGreat
set_option linter.unusedVariables false
open Go.RowKit
attribute [local go_sem ↓] Go.wp_at_zero Go.wp_at_succ
/-- The whole part of a float without its sign, below 2^64. -/
def whP (s : Nat) : Nat := if dgU s < 0 then dgC s / 2 ^ (-dgU s).toNat else dgC s * 2 ^ (dgU s).toNat
def whOk (s : Nat) : Bool := decide (s < 4895412794951729152)
theorem whP_lt (s : Nat) (h : s < 4895412794951729152) : whP s < 18446744073709551616 := by
  have hC := dgC_lt s
  unfold whP
  split
  · exact Nat.lt_of_le_of_lt (Nat.div_le_self _ _) (by omega)
  · have hu : (dgU s).toNat ≤ 11 := by unfold dgU; split <;> omega
    have h1 : 2 ^ (dgU s).toNat ≤ 2 ^ 11 := Nat.pow_le_pow_right (by decide) hu
    have h2 : dgC s * 2 ^ (dgU s).toNat ≤ 9007199254740991 * 2 ^ 11 := Nat.mul_le_mul (by omega) h1
    omega
set_option maxRecDepth 20000 in
set_option maxHeartbeats 1000000 in
theorem wholePart_any (s : Nat) (w : World) (hs : s < 9223372036854775808) : Calls Tryz.prog 73 #[.int .u64 s] w fun e w' => e = .returned (.tuple #[.int .u64 (if s < 4895412794951729152 then whP s else 0 : Nat), .bool (whOk s)]) ∧ w' = w := by
  by_cases h : s < 4895412794951729152
  · have d1 : decide ((s : Int) ≥ 4895412794951729152) = false := by simp; omega
    have hok : Hid (whOk s = true) := by show _ = _; simpa [whOk] using h
    have hlt := whP_lt s h
    have hU := dgU_lt s (by omega)
    have hC := dgC_lt s
    rw [if_pos h]
    have hw : Hid (whP s = whP s) := rfl
    have kd : Hid (∀ w, Calls Tryz.prog 64 #[.int .u64 s] w fun e w' => e = .returned (.tuple #[.int .u64 (dgC s), .int .i64 (dgU s)]) ∧ w' = w) := fun w => digits_any s w hs
    have hu11 : dgU s ≤ 11 := by unfold dgU; split <;> omega
    have hdef : Hid (whP s = if dgU s < 0 then dgC s / 2 ^ (-dgU s).toNat else dgC s * 2 ^ (dgU s).toNat) := rfl
    generalize whP s = p at *
    generalize dgC s = c at *
    generalize dgU s = u at *
    have hwu : IntKind.i64.wrap (-u) = -u := by rw [IntKind.wrap_i64]; omega
    by_cases hu : u < 0
    · have hp : Hid (p = c / 2 ^ (-u).toNat) := by show _ = _; rw [hdef.out, if_pos hu]
      have hdu : decide (u < 0) = true := by simpa using hu
      have hsh : Op.shift .shr .u64 (c : Int) .i64 (-u) = pure (.int .u64 (p : Int)) := by
        rw [hp.out]
        by_cases hb : -u ≤ 64
        · rw [shift_shr .u64 .i64 _ _ (by omega) (by show _ ≤ ((64 : Nat) : Int); omega)]
          congr 2
        · have h0 : c / 2 ^ (-u).toNat = 0 := by
            apply Nat.div_eq_of_lt
            have : 2 ^ 64 ≤ 2 ^ (-u).toNat := Nat.pow_le_pow_right (by decide) (by omega)
            omega
          rw [h0]
          have hmin : min (-u).toNat IntKind.u64.bits = 64 := by show min _ 64 = 64; omega
          have hneg : ¬ (-u < 0) := by omega
          have hz : (c : Int) / 2 ^ 64 = 0 := Int.ediv_eq_zero_of_lt (by omega) (by omega)
          simp [Op.shift, hmin]
          rw [if_neg (by omega), show (c : Int).fdiv 18446744073709551616 = 0 from by rw [Int.fdiv_eq_ediv_of_nonneg _ (by decide)]; exact Int.ediv_eq_zero_of_lt (by omega) (by omega)]
      go_enter Tryz.func73, Tryz.ntmps73
      go_wp2_with fail
      refine Calls.mono (kd.out _) ?_
      rintro e w1 ⟨rfl, rfl⟩
      go_wp2
      go_ret2
      exact ⟨by rw [hok.out]; rfl, rfl⟩
    · have hp : Hid (p = c * 2 ^ u.toNat) := by show _ = _; rw [hdef.out, if_neg hu]
      have hdu : decide (u < 0) = false := by simpa using hu
      have hsh : IntKind.u64.wrap ((c : Int) * 2 ^ u.toNat) = (p : Int) := by
        have e1 : ((c * 2 ^ u.toNat : Nat) : Int) = (c : Int) * 2 ^ u.toNat := by rw [Int.natCast_mul, Int.natCast_pow]; rfl
        rw [← e1, ← hp.out, IntKind.wrap_u64]
        omega
      go_enter Tryz.func73, Tryz.ntmps73
      go_wp2_with fail
      refine Calls.mono (kd.out _) ?_
      rintro e w1 ⟨rfl, rfl⟩
      go_wp2
      go_ret2
      exact ⟨by rw [hok.out]; rfl, rfl⟩
  · have d1 : decide ((s : Int) ≥ 4895412794951729152) = true := by simp; omega
    have hok : Hid (whOk s = false) := by show _ = _; simpa [whOk] using h
    rw [if_neg h]
    go_enter Tryz.func73, Tryz.ntmps73
    go_wp2
    go_ret2
    exact ⟨by rw [hok.out]; rfl, rfl⟩
theorem fromInt3 (w : World) : Calls Tryz.prog 39 #[.int .i64 3] w fun e w' => e = .returned (.float .f64 4613937818241073152) ∧ w' = w := by
  have h : floatOfInt FloatKind.f64 3 = 4613937818241073152 := by decide +kernel
  go_enter Tryz.func39, Tryz.ntmps39
  go_wp2
  go_ret
  exact ⟨rfl, rfl⟩
/-- A float cut to a whole number. -/
def cutI (b : Nat) : Int := if decide (9223372036854775808 ≤ b) then -(whP (b % 9223372036854775808) : Int) else whP (b % 9223372036854775808)
def toIntOk (b : Nat) (lo hi : Int) : Bool := whOk (b % 9223372036854775808) && fits64 (cutI b) && decide (lo ≤ cutI b) && decide (cutI b ≤ hi)
set_option maxRecDepth 20000 in
set_option maxHeartbeats 1000000 in
theorem ToInt_any (b : Nat) (lo hi : Int) (w : World) (hb : b < 18446744073709551616) : Calls Tryz.prog 37 #[.float .f64 b, .int .i64 lo, .int .i64 hi] w fun e w' => e = .returned (.tuple #[.int .i64 (if toIntOk b lo hi then cutI b else 0), .bool (toIntOk b lo hi)]) ∧ Below w.heap.size w w' := by
  have hc := bits64
  have h3 := bclr_top b hb
  have hsl : b % 9223372036854775808 < 9223372036854775808 := Nat.mod_lt _ (by decide)
  have kn : Hid _ := isNeg_any b
  obtain ⟨A, hA⟩ : ∃ A : Bool, A = toIntOk b lo hi := ⟨_, rfl⟩
  obtain ⟨R, hR⟩ : ∃ R : Int, R = (if A then cutI b else 0) := ⟨_, rfl⟩
  rw [← hA, ← hR]
  unfold toIntOk at hA
  have kw : Hid (∀ w, Calls Tryz.prog 73 #[.int .u64 (b % 9223372036854775808 : Nat)] w fun e w' => e = .returned (.tuple #[.int .u64 (if b % 9223372036854775808 < 4895412794951729152 then whP (b % 9223372036854775808) else 0 : Nat), .bool (whOk (b % 9223372036854775808))]) ∧ w' = w) := fun w => wholePart_any _ w hsl
  have hlt : b % 9223372036854775808 < 4895412794951729152 → whP (b % 9223372036854775808) < 18446744073709551616 := whP_lt _
  have hdef : Hid (cutI b = if decide (9223372036854775808 ≤ b) then -(whP (b % 9223372036854775808) : Int) else whP (b % 9223372036854775808)) := rfl
  generalize cutI b = x at *
  generalize decide (9223372036854775808 ≤ b) = sg at *
  generalize b % 9223372036854775808 = s at *
  by_cases h : s < 4895412794951729152
  · rw [if_pos h] at kw
    have hok : whOk s = true := by simpa [whOk] using h
    have hp := hlt h
    rw [hok] at kw hA
    simp only [Bool.true_and] at hA
    generalize whP s = p at *
    replace hA : Hid _ := hA
    replace hR : Hid _ := hR
    clear hok hlt
    go_enter Tryz.func37, Tryz.ntmps37
    go_wp2_with fail
    refine Calls.mono (kw.out _) ?_
    rintro e w1 ⟨rfl, rfl⟩
    go_wp2_with fail
    refine Calls.mono (kn.out _ hb) ?_
    rintro e w2 ⟨rfl, rfl⟩
    go_wp2_with fail
    refine Calls.mono (number66 sg p _ (by omega)) ?_
    rintro e w3 ⟨t, rfl, hN, b3⟩
    rw [← hdef.out] at hN
    have k4 := Int64_num hN
    replace k4 : Hid _ := k4
    clear kw kn
    go_wp2_with fail
    refine Calls.mono k4.out ?_
    rintro e w4 ⟨rfl, b4⟩
    clear k4 hN
    have hB := bthen b3 b4
    by_cases hf : fits64 x = true
    · have hpk : pick64 x = x := by unfold pick64; rw [hf]; rfl
      rw [hf, hpk]
      by_cases h1 : lo ≤ x
      · have d1 : decide (x < lo) = false := by simp; omega
        by_cases h2 : x ≤ hi
        · have d2 : decide (x > hi) = false := by simp; omega
          have eA : Hid (A = true) := by show _ = _; rw [hA.out, hf, decide_eq_true h1, decide_eq_true h2]; rfl
          have eR : Hid (R = x) := by show _ = _; rw [hR.out, eA.out]; rfl
          clear hpk hf h1 h2
          go_wp2
          go_ret2
          exact ⟨by rw [eA.out, eR.out]; rfl, hB⟩
        · have d2 : decide (x > hi) = true := by simp; omega
          have eA : Hid (A = false) := by show _ = _; rw [hA.out, hf, decide_eq_true h1, decide_eq_false h2]; rfl
          have eR : Hid (R = 0) := by show _ = _; rw [hR.out, eA.out]; rfl
          clear hpk hf h1 h2
          go_wp2
          go_ret2
          exact ⟨by rw [eA.out, eR.out]; rfl, hB⟩
      · have d1 : decide (x < lo) = true := by simp; omega
        have eA : Hid (A = false) := by show _ = _; rw [hA.out, hf, decide_eq_false h1]; rfl
        have eR : Hid (R = 0) := by show _ = _; rw [hR.out, eA.out]; rfl
        clear hpk hf h1
        go_wp2
        go_ret2
        exact ⟨by rw [eA.out, eR.out]; rfl, hB⟩
    · have hf' : fits64 x = false := by simpa using hf
      rw [hf']
      have eA : Hid (A = false) := by show _ = _; rw [hA.out, hf']; rfl
      have eR : Hid (R = 0) := by show _ = _; rw [hR.out, eA.out]; rfl
      clear hf hf'
      generalize pick64 x = y at *
      go_wp2
      go_ret2
      exact ⟨by rw [eA.out, eR.out]; rfl, hB⟩
  · rw [if_neg h] at kw
    have hok : whOk s = false := by simpa [whOk] using h
    rw [hok] at kw hA
    simp only [Bool.false_and] at hA
    subst hA
    have eR : Hid (R = 0) := by show _ = _; rw [hR]; rfl
    clear hok hlt hR
    go_enter Tryz.func37, Tryz.ntmps37
    go_wp2_with fail
    refine Calls.mono (kw.out _) ?_
    rintro e w1 ⟨rfl, rfl⟩
    go_wp2
    go_ret2
    exact ⟨by rw [eR.out]; rfl, Below.refl _ _⟩
end Go.Proofs.YtmpefgemlpnbiaaGreat
