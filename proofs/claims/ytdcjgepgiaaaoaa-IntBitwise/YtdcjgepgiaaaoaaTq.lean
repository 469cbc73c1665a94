/- The second road's Bitwise. -/
import Derived.Test.YtdcjgepgiaaaoaaRgc
import Derived.Deep.CutRange
namespace Go.Proofs.Ytdcjgepgiaaaoaa
open Go.RowKit
attribute [local go_sem ↓] Go.wp_at_zero Go.wp_at_succ
/-- The four operations on bits. -/
def opB : BinOp → Bool → Bool → Bool
  | .and, p, q => p && q
  | .or, p, q => p || q
  | .xor, p, q => p ^^ q
  | _, p, q => p && !q
def OpText (o : BinOp) (s : ByteArray) : Prop := (o = .and ∧ s = ⟨#[38]⟩) ∨ (o = .or ∧ s = ⟨#[124]⟩) ∨ (o = .xor ∧ s = ⟨#[94]⟩) ∨ (o = .andNot ∧ s = ⟨#[38, 94]⟩)
theorem HasBits.le {y : Int} {L : Nat} (h : HasBits (y.natAbs : Int) L) {w : World} {v : Value} {n : Nat} (hv : Rint w v y n) : L ≤ 16 * n := by
  obtain ⟨neg, a, cap, ds, _, hr, hn, rfl, hl⟩ := hv
  rw [← val_abs (by decide) hr.words] at h
  rcases h.2 with e | e
  · omega
  · have h1 := val_lt (B := 65536) (by decide) hr.words
    have h2 := pow_mono (B := 65536) (by decide) hl
    have h3 : (65536 : Int) ^ n = 2 ^ (16 * n) := by rw [Int.pow_mul]; rfl
    by_cases hc : L ≤ 16 * n
    · exact hc
    · have := pow_mono (B := 2) (by decide) (m := 16 * n) (n := L - 1) (by omega)
      omega
def bitI (b : Bool) : Int := if b = true then 1 else 0
/-- The number of some bits. -/
def bsum (f : Nat → Bool) : Nat → Int
  | 0 => 0
  | k + 1 => bsum f k + bitI (f k) * 2 ^ k
theorem bitI_rng (b : Bool) : 0 ≤ bitI b ∧ bitI b ≤ 1 := by cases b <;> decide
theorem bsum_rng (f : Nat → Bool) (k : Nat) : 0 ≤ bsum f k ∧ bsum f k < 2 ^ k := by
  induction k with
  | zero => simp [bsum]
  | succ k ih =>
    have hp := two_pow_pos k
    have hb := bitI_rng (f k)
    have h1 := Int.mul_nonneg hb.1 (Int.le_of_lt hp)
    have h2 := Int.mul_le_mul_of_nonneg_right hb.2 (Int.le_of_lt hp)
    simp only [bsum, Int.pow_succ]
    omega
theorem bsum_bit (f : Nat → Bool) (k i : Nat) (h : i < k) : tb (bsum f k) i = f i := by
  induction k with
  | zero => omega
  | succ k ih =>
    have hr := bsum_rng f k
    simp only [bsum]
    rw [Int.mul_comm, tb_cons hr.1 hr.2]
    split
    · rename_i hi; exact ih hi
    · obtain rfl : i = k := by omega
      rw [Nat.sub_self]
      cases f i <;> decide
theorem bit_num {w : World} {m : Bool} {a : Option Addr} {l c : Nat} {z : Int} {n : Nat} (h : Rint w (.agg #[.bool m, .slice a l c]) z n) (hz : 0 ≤ z) (hn : n ≤ 1000) (i : Nat) (hi : i ≤ 100000) :
    Calls Try.prog 53 #[.slice a l c, .int .i64 i] w fun e w' => e = .returned (.int .i64 (bitI (tb z i))) ∧ w' = w := by
  have hs := h.sign
  obtain ⟨neg, a', cap, ds, hv, hr, hn', hzz, hl⟩ := h
  simp at hv
  obtain ⟨rfl, rfl, rfl, rfl⟩ := hv
  have hm : m = false := by rw [hs]; simpa using hz
  subst hm
  have e : val 65536 ds = z := hzz
  refine (bit_any a c ds i w hr (by omega) (by omega)).mono ?_
  rintro e' w' ⟨rfl, rfl⟩
  refine ⟨ret_int ?_, rfl⟩
  rw [e]
  unfold bitI tb
  have := Int.emod_nonneg (z / 2 ^ i) (b := 2) (by decide)
  have := Int.emod_lt_of_pos (z / 2 ^ i) (b := 2) (by decide)
  split
  · rename_i h; simpa using h
  · rename_i h; simp at h; omega
/-- One bit more in a row of digits. -/
theorem bit_step {ds : List Int} {k : Nat} {V : Int} {b : Bool} (hw : Words 65536 ds) (hl : ds.length = k / 16 + 1) (hv : val 65536 ds = V) (h0 : V < 2 ^ k) :
    ds[k / 16]?.getD 0 < 2 ^ (k % 16) ∧ val 65536 (ds.set (k / 16) (ds[k / 16]?.getD 0 + bitI b * 2 ^ (k % 16))) = V + bitI b * 2 ^ k := by
  have hk : (2 : Int) ^ k = 65536 ^ (k / 16) * 2 ^ (k % 16) := by
    conv => lhs; rw [show k = 16 * (k / 16) + k % 16 from by omega]
    exact pow2_digit _ _
  have h1 := val_take_succ 65536 ds (k / 16)
  rw [take_all (by omega), hv] at h1
  have h2 := val_nonneg (B := 65536) (by decide) (hw.take (k / 16))
  have h3 := val_set_take 65536 ds (k / 16) (ds[k / 16]?.getD 0 + bitI b * 2 ^ (k % 16)) (by omega)
  rw [take_all (by rw [List.length_set]; omega)] at h3
  have hp : (0 : Int) < 65536 ^ (k / 16) := Int.pow_pos (by decide)
  constructor
  · by_cases hc : ds[k / 16]?.getD 0 < 2 ^ (k % 16)
    · exact hc
    · have := Int.mul_le_mul_of_nonneg_right (show 2 ^ (k % 16) ≤ ds[k / 16]?.getD 0 by omega) (Int.le_of_lt hp)
      rw [Int.mul_comm (2 ^ (k % 16)), ← hk] at this
      omega
  · rw [h3, hk, Int.add_mul, Int.mul_assoc, Int.mul_comm (2 ^ (k % 16))]
    omega
/-- Enough bits. -/
def Wide (y : Int) (n : Nat) : Prop := (y.natAbs : Int) < 2 ^ (n - 2) ∧ 2 ≤ n
theorem Wide.sign {y : Int} {n : Nat} (h : Wide y n) {i : Nat} (hi : n - 1 ≤ i) : tb y i = tb y (n - 1) := by
  obtain ⟨h1, h2⟩ := h
  have l0 : -2 ^ (n - 2) ≤ y := by omega
  have l1 : y < 2 ^ (n - 2) := by omega
  rw [tb_sign l0 l1 (by omega), tb_sign l0 l1 (by omega)]
theorem boxes3t (w : World) (v0 v1 v2 v3 : Value) (m4 : Bool) (a5 : Option Addr) (l5 c5 : Nat) (T : TypeId) : ∃ W, W = ((w.alloc (.cells #[v0, v1] T)).alloc (.cells #[v2, v3] T)).alloc (.cells #[.bool m4, .slice a5 l5 c5] T) ∧ Below w.heap.size w W ∧ w.heap.size + 1 + 1 < W.heap.size ∧
    (W.cell? ⟨w.heap.size, 0, none⟩ = some v0 ∧ W.cell? ⟨w.heap.size, 1, none⟩ = some v1 ∧ W.cell? ⟨w.heap.size + 1, 0, none⟩ = some v2 ∧ W.cell? ⟨w.heap.size + 1, 1, none⟩ = some v3 ∧ W.cell? ⟨w.heap.size + 1 + 1, 0, none⟩ = some (.bool m4) ∧ W.cell? ⟨w.heap.size + 1 + 1, 1, none⟩ = some (.slice a5 l5 c5)) ∧
    (∀ o, W.frozen? ⟨w.heap.size + 1 + 1, o, none⟩ = false) ∧ PBox W (w.heap.size + 1 + 1) := by
  refine ⟨_, rfl, (((Below.refl _ _).alloc (Nat.le_refl _) _).alloc (by simp) _).alloc (by simp; omega) _, by simp, ⟨?_, ?_, ?_, ?_, ?_, ?_⟩, ?_, ?_⟩
  case refine_8 => have h := PBox.new2 (w.alloc (.cells #[v0, v1] T)) (.cells #[v2, v3] T) m4 a5 l5 c5 T; rwa [show (w.alloc (.cells #[v0, v1] T)).heap.size = w.heap.size + 1 from by simp] at h
  all_goals (try intro o) <;> simp [go_sem, World.cell?_alloc_past]
def lowV (base p q N : Nat) (U V : Value) (y z : Int) (t : Nat) (v : Value) (w : World) : Prop := match t with
  | 4 => v = .pointer (some ⟨p, 0, none⟩)
  | 5 => v = .pointer (some ⟨q, 0, none⟩)
  | 8 => v = .int .i64 N
  | 9 => BoxPtr base v w
  | 10 => BoxPtr base v w
  | 27 => v = U
  | 28 => v = .int .i64 N
  | 29 => Rint w v y 70
  | 30 => v = V
  | 31 => v = .int .i64 N
  | 32 => Rint w v z 70
  | _ => True
theorem lowV_next {base p q N : Nat} {U V : Value} {y z : Int} (t : Nat) (v : Value) (w w' : World) (hb : Below w.heap.size w w') (h : lowV base p q N U V y z t v w) : lowV base p q N U V y z t v w' := by
  unfold lowV at h ⊢
  split at h <;> first | exact h | exact BoxPtr.next h hb | exact Rint.next h hb
theorem lowV_chg {base p q N : Nat} {U V : Value} {y z : Int} (t : Nat) (v : Value) (w w' : World) (b : Nat) (hc : Chg b w w') (hb : NBox w b) (hb' : NBox w' b) (h : lowV base p q N U V y z t v w) : lowV base p q N U V y z t v w' := by
  unfold lowV at h ⊢
  split at h <;> first | exact h | exact BoxPtr.chg h hc hb' | exact Rint.chg h hc hb
def lowC (y z : Int) (j b : Nat) (w : World) : Prop := match j with
  | 8 => Holds w b (fun v => Rint w v y 70)
  | 9 => Holds w b (fun v => Rint w v z 70)
  | _ => True
theorem lowC_next {y z : Int} (j b : Nat) (w w' : World) (hb : Below w.heap.size w w') (_ : b < w.heap.size) (h : lowC y z j b w) : lowC y z j b w' := by
  unfold lowC at h ⊢
  split at h <;> first | exact h | exact Holds.next h hb (fun v k => k.next hb)
theorem lowC_chg {y z : Int} (j b b' : Nat) (w w' : World) (hc : Chg b' w w') (hb : NBox w b') (_ : NBox w' b') (hne : b ≠ b') (h : lowC y z j b w) : lowC y z j b w' := by
  unfold lowC at h ⊢
  split at h <;> first | exact h | exact Holds.chg h hc hne (fun v k => k.chg hc hb)
set_option maxRecDepth 20000 in
set_option maxHeartbeats 4000000 in
theorem rBitwise_ok {w : World} {u v : Value} {y z : Int} {m n : Nat} (o : BinOp) (s : ByteArray) (hs : OpText o s) (hu : Rint w u y m) (hv : Rint w v z n) (hm : m ≤ 30) (hn : n ≤ 30) :
    Calls Try.prog 28 #[.string s, u, v] w fun e w' => ∃ t r, e = .returned (.tuple #[t, .bool true]) ∧ Rint w' t r 100 ∧ (∀ i, tb r i = opB o (tb y i) (tb z i)) ∧ Below w.heap.size w w' := by
  obtain ⟨nu, au, lu, cu, rfl⟩ := hu.form
  obtain ⟨nv, av, lv, cv, rfl⟩ := hv.form
  obtain ⟨W, hW, hbW, hlt, ⟨c0, c1, c2, c3, c4, c5⟩, f4, hbox⟩ := boxes3t w (.bool nu) (.slice au lu cu) (.bool nv) (.slice av lv cv) false none 0 0 30
  have hU := hu.next hbW
  have hV := hv.next hbW
  have k1 := rBits_num hU (by omega)
  replace k1 : Hid _ := k1
  go_enter Try.func28, Try.ntmps28
  go_wp2_with fail
  rw [← hW]
  clear hW
  refine Calls.mono k1.out ?_
  rintro e w1 ⟨L1, rfl, hL1, hb1⟩
  clear k1
  have d2 := keep_cell hb1 c2
  have d3 := keep_cell hb1 c3
  have k2 := rBits_num (hV.next hb1) (by omega)
  replace k2 : Hid _ := k2
  go_wp2_with fail
  refine Calls.mono k2.out ?_
  rintro e w2 ⟨L2, rfl, hL2, hb2⟩
  clear k2 d2 d3
  have hb12 := bthen hb1 hb2
  have e2 := keep_cell hb12 c2
  have e3 := keep_cell hb12 c3
  have hL1m : L1 ≤ 16 * m := hL1.le hu
  have hL2m : L2 ≤ 16 * n := hL2.le hv
  go_upto_if 22 with fail
  go_cut [8] from 17 (fun N w3 => ∃ L : Nat, N = .int .i64 L ∧ L1 ≤ L ∧ L2 ≤ L ∧ L ≤ 480 ∧ Below W.heap.size W w3)
  case first =>
    by_cases hgt : L1 < L2
    · have k3 := rBits_num ((hV.next hb12)) (by omega)
      replace k3 : Hid _ := k3
      go_wp2_with fail
      refine Calls.mono k3.out ?_
      rintro e w3 ⟨L3, rfl, hL3, hb3⟩
      have h23 := hL2.unique hL3
      go_wp2_with fail
      go_meet
      case rel => exact ⟨L3, rfl, by omega, by omega, by omega, bthen hb12 hb3⟩
    · go_wp2_with fail
      go_meet
      case rel => exact ⟨L1, rfl, by omega, by omega, by omega, hb12⟩
  case rest =>
    obtain ⟨L, rfl, hLa, hLb, hL, hb3⟩ := hcut
    have wy : Wide y (L + 2) := ⟨Int.lt_of_lt_of_le hL1.1 (pow_mono (by decide) hLa), by omega⟩
    have wz : Wide z (L + 2) := ⟨Int.lt_of_lt_of_le hL2.1 (pow_mono (by decide) hLb), by omega⟩
    have q0 := keep_cell hb3 c0
    have q1 := keep_cell hb3 c1
    have q2 := keep_cell hb3 c2
    have q3 := keep_cell hb3 c3
    have q4 := keep_cell hb3 c4
    have q5 := keep_cell hb3 c5
    have g4 := keep_frozen hb3 c4 (f4 0)
    have g5 := keep_frozen hb3 c5 (f4 1)
    have bx := hbox.next hb3
    have hU3 := hU.next hb3
    have hV3 := hV.next hb3
    have hB3 := bthen hbW hb3
    clear c0 c1 c2 c3 c4 c5 f4 hbox hU hV hb3 hb12 hb1 hb2 e2 e3 hL1 hL2 hlt hbW hL1m hL2m hLa hLb
    generalize wc = W3 at *
    go_wp2
    go_cut [9, 10] from 27 (fun p q w4 => ∃ gx gy, p = .pointer (some ⟨gx, 0, none⟩) ∧ q = .pointer (some ⟨gy, 0, none⟩) ∧ Holds w4 gx (fun v => Rint w4 v (y % 2 ^ (L + 2)) 70) ∧ Holds w4 gy (fun v => Rint w4 v (z % 2 ^ (L + 2)) 70) ∧ Below W3.heap.size W3 w4)
    case first =>
      rename_i J K' hJ hK'
      refine wp_region_boxes (lowV W3.heap.size w.heap.size (w.heap.size + 1) (L + 2) (.agg #[.bool nu, .slice au lu cu]) (.agg #[.bool nv, .slice av lv cv]) (y % 2 ^ (L + 2)) (z % 2 ^ (L + 2))) NBox (lowC (y % 2 ^ (L + 2)) (z % 2 ^ (L + 2))) [4, 5, 8] [9, 10] [(8, 9), (9, 10)] 105 (by kernel_rfl) (by kernel_rfl) rfl lowV_next lowV_chg ?hA lowC_next lowC_chg ?hstart (StepsFrom.all ?hstep) ?hend
      case hA =>
        intro s v w' hs hv
        have hs' : s = 9 ∨ s = 10 := by simpa using hs
        rcases hs' with rfl | rfl <;> exact BoxPtr.has hv
      case hstart =>
        intro t ht
        simp only [List.mem_cons, List.not_mem_nil, or_false] at ht
        rcases ht with rfl | rfl | rfl
        · rfl
        · rfl
        · show Value.int .i64 _ = Value.int .i64 _
          rfl
      case hstep =>
        refine ⟨?s0, ?s1, ?s2, ?s3, ?s4, ?s5, ?s6, ?s7, ?s8, ?s9, trivial⟩
        case s0 => exact plain_at (StepOk.of (guard_none rfl) fun b w' _ hW hl K hK => ld30 (keep_cell hW q0) (keep_cell hW q1) 4 rfl (look hl 4 (by kernel_rfl)) (hK _ _ (Below.refl _ _) (dst_eq rfl rfl))) (dst_eq rfl rfl) rfl
        case s1 => exact plain_at (step_move 8 28 rfl rfl (guard_none rfl) (by kernel_rfl) (fun v w h => h)) (dst_eq rfl rfl) rfl
        case s2 => exact plain_at (step_call2 57 27 28 29 _ (by kernel_rfl) rfl rfl (guard_none rfl) (by kernel_rfl) (by kernel_rfl) (fun u v w' hW hu hv => by subst hu; subst hv; exact (low_num (L + 2) (hU3.next hW) (by omega) (by omega)).mono fun e w'' h => by obtain ⟨t, h1, h2, h3⟩ := h; exact ⟨t, h1, h2.mono (by omega), h3⟩)) (dst_eq rfl rfl) rfl
        case s3 => exact plain_at (StepOk.of (guard_none rfl) fun b w' _ hW hl K hK => ld30 (keep_cell hW q2) (keep_cell hW q3) 5 rfl (look hl 5 (by kernel_rfl)) (hK _ _ (Below.refl _ _) (dst_eq rfl rfl))) (dst_eq rfl rfl) rfl
        case s4 => exact plain_at (step_move 8 31 rfl rfl (guard_none rfl) (by kernel_rfl) (fun v w h => h)) (dst_eq rfl rfl) rfl
        case s5 => exact plain_at (step_call2 57 30 31 32 _ (by kernel_rfl) rfl rfl (guard_none rfl) (by kernel_rfl) (by kernel_rfl) (fun u v w' hW hu hv => by subst hu; subst hv; exact (low_num (L + 2) (hV3.next hW) (by omega) (by omega)).mono fun e w'' h => by obtain ⟨t, h1, h2, h3⟩ := h; exact ⟨t, h1, h2.mono (by omega), h3⟩)) (dst_eq rfl rfl) rfl
        case s6 => exact new_at (step_new 9 (.inl rfl) rfl rfl (fun v w h => h)) rfl rfl rfl
        case s7 => exact new_at (step_new 10 (.inl rfl) rfl rfl (fun v w h => h)) rfl rfl rfl
        case s8 => exact put_at (step_put 8 9 29 (.inl rfl) rfl rfl (by kernel_rfl) (fun v w h => Rint.form h) (fun g w' w'' m a l c hv hc hb _ r0 r1 => ⟨m, a, l, c, r0, r1, Rint.chg hv hc hb⟩)) rfl rfl (by kernel_rfl)
        case s9 => exact put_at (step_put 9 10 32 (.inl rfl) rfl rfl (by kernel_rfl) (fun v w h => Rint.form h) (fun g w' w'' m a l c hv hc hb _ r0 r1 => ⟨m, a, l, c, r0, r1, Rint.chg hv hc hb⟩)) rfl rfl (by kernel_rfl)
      case hend =>
        rintro ⟨tm, df⟩ w' hs hd hW hv hdis hC hfr
        obtain ⟨g9, e9, _, _⟩ := hv 9 (.inr ⟨6, _, rfl, rfl⟩)
        obtain ⟨g10, e10, _, _⟩ := hv 10 (.inr ⟨7, _, rfl, rfl⟩)
        have c8 := hC 8 9 (by simp) (by decide) g9 e9
        have c9 := hC 9 10 (by simp) (by decide) g10 e10
        obtain ⟨xs, htm, hxs⟩ := frame_mixed hfr hs
        have x9 : xs.getD 9 undef = .pointer (some ⟨g9, 0, none⟩) := (hxs 9).trans e9
        have x10 : xs.getD 10 undef = .pointer (some ⟨g10, 0, none⟩) := (hxs 10).trans e10
        clear hxs hv hdis hC hfr e9 e10
        subst htm
        obtain rfl := hd
        refine hK' _ _ (Met.intro (hJ _ _ ?_))
        (repeat apply Exists.intro)
        refine ⟨?rel, rfl⟩
        case rel => exact ⟨g9, g10, x9, x10, c8, c9, hW⟩
    case rest =>
      obtain ⟨gx, gy, rfl, rfl, ⟨mx, ax, kx, cx, x0, x1, hX⟩, ⟨my, ay, ky, cy, y0, y1, hY⟩, hb4⟩ := hcut
      have q4' := keep_cell hb4 q4
      have q5' := keep_cell hb4 q5
      have g4' := keep_frozen hb4 q4 g4
      have g5' := keep_frozen hb4 q5 g5
      have bx4 := bx.next hb4
      have hB4 := bthen hB3 hb4
      clear q0 q1 q2 q3 q4 q5 g4 g5 bx hU3 hV3 hB3 hb4
      generalize wc = W4 at *
      have hp := two_pow_pos (L + 2)
      have hX0 := Int.emod_nonneg y (b := 2 ^ (L + 2)) (by omega)
      have hY0 := Int.emod_nonneg z (b := 2 ^ (L + 2)) (by omega)
      obtain ⟨f, hf⟩ : ∃ f : Nat → Bool, f = fun i => opB o (tb y i) (tb z i) := ⟨_, rfl⟩
      replace hf : Hid _ := hf
      obtain ⟨i0, hi, hz0, hz1, hz2⟩ := info_parts Try.info3
      go_wp2
      go_loopw [11, 12] (fun d i wr => ∃ (k : Nat) (a : Option Addr) (cap : Nat) (ds : List Int), k ≤ L + 2 ∧ i = .int .i64 k ∧ d = .slice a ds.length cap ∧ Own wr W4.heap.size .i64 3 65536 a cap ds ∧ Hid (ds.length = (k + 15) / 16) ∧ Hid (val 65536 ds = bsum f k) ∧ Below W4.heap.size W4 wr) (fun _ i _ => L + 2 - (intOf i).toNat)
      case atStart => exact ⟨0, none, 0, [], by omega, rfl, rfl, Own.empty _ _ _ _ _, rfl, rfl, Below.refl _ _⟩
      case round =>
        obtain ⟨k, a, cap, ds, hk, rfl, rfl, hown, hdl, hdv, hbel⟩ := hrel
        by_cases hlt : k < L + 2
        · go_upto_if 40 with fail
          go_cut [11] from 33 to 90 (fun d w2 => ∃ (a : Option Addr) (cap : Nat) (ds : List Int), d = .slice a ds.length cap ∧ Own w2 W4.heap.size .i64 3 65536 a cap ds ∧ Hid (ds.length = k / 16 + 1) ∧ Hid (val 65536 ds = bsum f k) ∧ Below W4.heap.size W4 w2)
          case first =>
            have hsz := hbel.size
            by_cases hr : (k : Int) % 16 = 0
            · have hrb : ((k : Int) % 16 == 0) = true := by simp [hr]
              replace hr : Hid _ := hr
              have hD : Below wr.heap.size wr (wr.alloc (.cells #[.int .i64 0] 3)) := (Below.refl _ _).alloc (Nat.le_refl _) _
              obtain ⟨a2, cap2, w2, hrun, hown2, hb2⟩ := run_append_row (P := Try.prog) (wr.alloc (.cells #[.int .i64 0] 3)) 28 28 3 W4.heap.size .i64 8 65536 i0 Try.underlying28 hi hz0 hz1 hz2 a cap ds.length ds (hown.next hD) rfl ⟨wr.heap.size, 0, none⟩ 1 1 [0] (Row.alloc1 wr .i64 3 65536 0 (by decide)) rfl (by omega) (by have := hdl.out; omega) (by omega) (by simp; omega)
              replace hrun : Hid _ := hrun
              have hbel2 : Below W4.heap.size W4 w2 := (hbel.trans (hD.mono hsz)).trans hb2
              have hl2 : Hid ((ds ++ [0]).length = k / 16 + 1) := by show _ = _; rw [List.length_append, hdl.out]; have := hr.out; simp; omega
              have hv2 : Hid (val 65536 (ds ++ [0]) = bsum f k) := by show _ = _; rw [val_append, hdv.out]; simp [val]
              have hl3 : ds.length + 1 = (ds ++ [0]).length := by simp
              replace hl3 : Hid _ := hl3
              go_wp2_with (at_builtin; refine wpList_append_run (by rfl) (.tmp 41) (.tmp 42) 28 28 (by rfl) (.slice a ds.length cap) (.slice (some ⟨wr.heap.size, 0, none⟩) 1 1) (by rfl) (by rfl) _ _ hrun.out ?_)
              go_meet
              case rel => exact ⟨a2, cap2, ds ++ [0], by rw [← hl3.out], hown2, hl2, hv2, hbel2⟩
            · have hrb : ((k : Int) % 16 == 0) = false := by simp [hr]
              have hl2 : Hid (ds.length = k / 16 + 1) := by show _ = _; rw [hdl.out]; omega
              replace hr : Hid _ := hr
              go_wp2_with fail
              go_meet
              case rel => exact ⟨a, cap, ds, rfl, hown, hl2, hdv, hbel⟩
          case rest =>
            clear hown hdl hdv hbel
            obtain ⟨a, cap, ds, rfl, hown, hdl, hdv, hbel⟩ := hcut
            generalize wc = W5 at *
            have x1' := keep_cell hbel x1
            have y1' := keep_cell hbel y1
            have hX5 := hX.next hbel
            have hY5 := hY.next hbel
            have kb1 := fun n => bit_num (hX5.next (below_drewN (Below.refl _ W5) n)) hX0 (by decide) k (by omega)
            have kb2 := fun n => bit_num (hY5.next (below_drewN (Below.refl _ W5) n)) hY0 (by decide) k (by omega)
            rw [tb_mod y hlt] at kb1
            rw [tb_mod z hlt] at kb2
            have hfk : Hid (f k = opB o (tb y k) (tb z k)) := by show _ = _; rw [hf.out]
            generalize tb y k = bp at *
            generalize tb z k = bq at *
            replace kb1 : Hid _ := kb1
            replace kb2 : Hid _ := kb2
            have hr1 := bsum_rng f k
            obtain ⟨hdig, _⟩ := bit_step (b := true) hown.words hdl.out hdv.out hr1.2
            have hstp : ∀ b : Bool, f k = b → val 65536 (ds.set (k / 16) (ds[k / 16]?.getD 0 + bitI b * 2 ^ (k % 16))) = bsum f (k + 1) := by
              intro b hb
              have := (bit_step (b := b) hown.words hdl.out hdv.out hr1.2).2
              rw [this]
              simp only [bsum, hb]
            replace hstp : Hid _ := hstp
            have hpos : 0 < ds.length := by have := hdl.out; omega
            obtain ⟨ga, rfl, hga, hblk⟩ := hown.some hpos
            obtain ⟨d0, hd0, hd1, hd2⟩ := hown.words.get (by decide) (k / 16)
            have hcl := hblk.cell (k / 16) (by have := hdl.out; omega)
            have hfr := hblk.frozen (k / 16)
            rw [hd0] at hcl hdig
            have hsl : Hid (∀ b : Bool, f k = b → val 65536 (ds.set (k / 16) (d0 + bitI b * 2 ^ (k % 16))) = bsum f (k + 1)) := by
              have := hstp.out
              rw [hd0] at this
              exact this
            clear hstp hd0
            have e1 : (k : Int).tdiv 16 = ((k / 16 : Nat) : Int) := by rw [Int.tdiv_eq_ediv_of_nonneg (by omega)]; omega
            have e2 : (k : Int).tmod 16 = ((k % 16 : Nat) : Int) := by rw [Int.tmod_eq_emod_of_nonneg (by omega)]; omega
            have e3 : (k : Int) / 16 = ((k / 16 : Nat) : Int) := by omega
            have e4 : (k : Int) % 16 = ((k % 16 : Nat) : Int) := by omega
            have e5 : ((k / 16 : Nat) : Int) < (ds.length : Int) := by have := hdl.out; omega
            have e6 : k % 16 < 16 := by omega
            have hq0 : (0 : Int) ≤ ((k / 16 : Nat) : Int) := by omega
            have hr0 : (0 : Int) ≤ ((k % 16 : Nat) : Int) := by omega
            have hpw := pow_mono (B := 2) (by decide) (m := k % 16) (n := 15) (by omega)
            have hp15 : (2 : Int) ^ 15 = 32768 := by decide
            have hpp := two_pow_pos (k % 16)
            have hwr := wrap_i64 (2 ^ (k % 16)) (by omega) (by omega)
            have hw0 := wrap_i64 0 (by decide) (by decide)
            go_wp2
            go_quiet ((first | (go_at_call_of 53 (Value.slice ax kx cx); exact Calls.quiet_of_same (kb1.out _)) | (go_at_call_of 53 (Value.slice ay ky cy); exact Calls.quiet_of_same (kb2.out _))))
            generalize hq : k / 16 = q at *
            generalize hr : k % 16 = r at *
            replace hq : Hid _ := hq
            replace hr : Hid _ := hr
            have H0 : Hid (f k = false → val 65536 (ds.set q d0) = bsum f (k + 1)) := fun h => by
              have := hsl.out false h
              simpa [bitI] using this
            have H1 : Hid (f k = true → val 65536 (ds.set q (d0 + 2 ^ r)) = bsum f (k + 1)) := fun h => by
              have := hsl.out true h
              simpa [bitI] using this
            have HO : ∀ n x, 0 ≤ x → x < 65536 → Own ((W5.drewN n).setCell ⟨ga, q, none⟩ (.int .i64 x)) W4.heap.size .i64 3 65536 (some ⟨ga, 0, none⟩) cap (ds.set q x) := fun n x h0 h1 =>
              ((hblk.next (below_drewN (Below.refl _ W5) n)).set q x).own (hown.words.set q ⟨h0, h1⟩) hga
            have HB : ∀ n x, Below W4.heap.size W4 ((W5.drewN n).setCell ⟨ga, q, none⟩ (.int .i64 x)) := fun n x => (below_drewN hbel n).setCell hga _
            have HL : ∀ x, Hid ((ds.set q x).length = (k + 1 + 15) / 16) := fun x => by
              show _ = _
              rw [List.length_set, hdl.out]
              have := hq.out
              omega
            replace HO : Hid _ := HO
            replace HB : Hid _ := HB
            replace HL : Hid _ := HL
            have t0 : bitI false = 0 := rfl
            have t1 : bitI true = 1 := rfl
            clear hsl x1' y1' hX5 hY5 kb1 kb2 hown
            rcases hs with ⟨rfl, rfl⟩ | ⟨rfl, rfl⟩ | ⟨rfl, rfl⟩ | ⟨rfl, rfl⟩ <;> cases bp <;> cases bq
            all_goals
              go_wp2
              go_region
              go_wp2
              go_roundw
              case rel => first
                | exact ⟨k + 1, _, cap, ds.set q d0, by omega, by go_num, by rw [List.length_set], HO.out _ d0 hd1 hd2, HL.out d0, H0.out hfk.out, HB.out _ _⟩
                | exact ⟨k + 1, _, cap, ds.set q (d0 + 2 ^ r), by omega, by go_num, by rw [List.length_set], HO.out _ _ (by omega) (by omega), HL.out _, H1.out hfk.out, HB.out _ _⟩
              case measure => simp [intOf]; omega
        · obtain rfl : k = L + 2 := by omega
          have hsb := sgn_bits (R := bsum f (L + 2)) (n := L + 2) (v := f) (by omega) (bsum_rng f _).1 (bsum_rng f _).2 (fun i hi => bsum_bit f _ i hi) (fun i hi => by rw [hf.out]; show opB o _ _ = opB o _ _; rw [wy.sign hi, wz.sign hi])
          have hR0 := (bsum_rng f (L + 2)).1
          have hRI : Rint wr (.agg #[.bool false, .slice a (trimmed ds).length (trimmed ds).length]) (bsum f (L + 2)) 60 :=
            ⟨false, a, _, trimmed ds, rfl, hown.row.cutTrim, ⟨trimmed_nrm ds, fun h => by cases h⟩, by show val 65536 _ = _; rw [trimmed_val]; exact hdv.out, by have := trimmed_le ds; have := hdl.out; omega⟩
          have kt := rtrim_any a cap ds wr hown.row
          replace kt : Hid _ := kt
          have hsb' : Hid (∀ i, tb (if tb (bsum f (L + 2)) (L + 1) = true then bsum f (L + 2) - 2 ^ (L + 2) else bsum f (L + 2)) i = opB o (tb y i) (tb z i)) := fun i => by
            have := hsb i
            rw [hf.out] at this ⊢
            exact this
          clear hsb hX hY
          generalize bsum f (L + 2) = R at *
          generalize (trimmed ds).length = nt at *
          obtain ⟨W6, hW6, hbW6, hlW6, p0, p1, pf0, pf1⟩ := box1r wr (.bool false) (.slice a nt nt) 30
          have bx6 : PBox W6 wr.heap.size := by rw [hW6]; exact PBox.new _ _ _ _ _ _
          have hb6 := hbel.trans (hbW6.mono hbel.size)
          have hB6 := bthen hB4 hb6
          have r4 := keep_cell hb6 q4'
          have r5 := keep_cell hb6 q5'
          have s4 := keep_frozen hb6 q4' g4'
          have s5 := keep_frozen hb6 q5' g5'
          have bxr := bx4.next hb6
          have hR6 := hRI.next hbW6
          have kb := bit_num hR6 hR0 (by decide) (L + 1) (by omega)
          rw [show ((L + 1 : Nat) : Int) = (L : Int) + 1 from by omega] at kb
          replace kb : Hid _ := kb
          have lne : w.heap.size + 1 + 1 ≠ wr.heap.size := by have h1 := cell_lt q4'; have h2 := hbel.size; simp only at h1; omega
          go_wp2_with fail
          refine Calls.mono kt.out ?_
          rintro e w5 ⟨rfl, hw5⟩
          rw [hw5]
          clear hw5 kt x0 x1 y0 y1 q4' q5' g4' g5' bx4
          have ecast : ((L + 2 : Nat) : Int) = (L : Int) + 2 := by omega
          have e1 : (L : Int) + 2 - 1 = ((L + 1 : Nat) : Int) := by omega
          go_wp2_with fail
          rw [← hW6]
          refine Calls.mono kb.out ?_
          rintro e w5 ⟨rfl, hw5⟩
          rw [hw5]
          clear hw5 kb hW6 w5
          have hlt' : w.heap.size + 1 + 1 < W6.heap.size := cell_lt r4
          cases htb : tb R (L + 1) with
          | false =>
            rw [htb] at hsb'
            have t0 : bitI false = 0 := rfl
            replace htb : Hid _ := htb
            go_wp2
            refine bodyPost_ret (v := .tuple #[.agg #[.bool false, .slice a nt nt], .bool true]) (by simp [results, Try.results28, go_sem, r4, r5]) rfl ⟨_, R, rfl, (hR6.put bxr _ _ _ _).mono (by decide), fun i => hsb'.out i, (hB6.setCell (by simp; omega) _).setCell (by simp; omega) _⟩
          | true =>
            rw [htb] at hsb'
            have t1 : bitI true = 1 := rfl
            replace htb : Hid _ := htb
            have hP0 := fun w' => Power2_any (L + 2) w' (by omega)
            rw [ecast] at hP0
            replace hP0 : Hid _ := hP0
            go_wp2
            have hD0 : Below W6.heap.size W6 W6.drew := (Below.refl _ _).drew
            go_region_with
              (first
                | (go_at_call 58; refine Calls.mono (hP0.out _) ?_; rintro e w7 ⟨t, rfl, hP, hb7⟩; obtain ⟨m7, a7, l7, d7, rfl⟩ := hP.rint.form; have hP7 := hP.rint; have hB7 : Below W6.heap.size W6 w7 := bthen hD0 hb7; have p0'' := keep_cell hB7 p0; have p1'' := keep_cell hB7 p1)
                | (go_at_call 16; refine (rSub_num (hR6.next hB7) hP7 (by decide) (by omega)).mono ?_; rintro e w8 ⟨t, rfl, hS, hb8⟩; obtain ⟨m8, a8, l8, d8, rfl⟩ := hS.form; have hB8 : Below W6.heap.size W6 w8 := bthen hB7 hb8; have p0' := keep_cell hB8 p0; have p1' := keep_cell hB8 p1; have pf0' := keep_frozen hB8 p0 pf0; have pf1' := keep_frozen hB8 p1 pf1))
            all_goals
              have r4' := keep_cell hB8 r4
              have r5' := keep_cell hB8 r5
              have s4' := keep_frozen hB8 r4 s4
              have s5' := keep_frozen hB8 r5 s5
              have b5 := bxr.next hB8
              have b7 := bx6.next hB8
              have hBf := bthen hB6 hB8
              have lne' : wr.heap.size ≠ w.heap.size + 1 + 1 := Ne.symm lne
              have lw8 : w.heap.size ≤ wr.heap.size := by have := hB4.size; have := hbel.size; omega
              go_wp2
              refine bodyPost_ret (v := .tuple #[.agg #[.bool m8, .slice a8 l8 d8], .bool true]) (by simp [results, Try.results28, go_sem, r4', r5']) rfl ⟨_, R - 2 ^ (L + 2), rfl, ?_, fun i => hsb'.out i, ?_⟩
              · exact ((hS.put b7 _ _ _ _).put ((b5.other lne').other lne') _ _ _ _).mono (by omega)
              · exact ((((hBf.setCell (by simp; omega) _).setCell (by simp; omega) _).setCell (by simp; omega) _).setCell (by simp; omega) _)
theorem toList_ne {s : ByteArray} {l : List UInt8} (h : s ≠ ⟨l.toArray⟩) : (s.toList == l) = false := by
  rw [beq_eq_false_iff_ne]
  intro e
  apply h
  rw [ByteArray.toList_eq] at e
  cases s with
  | mk d => simp at e; rw [← e]
theorem opText_no {s : ByteArray} (h : ∀ o, ¬ OpText o s) : (s.toList == [38]) = false ∧ (s.toList == [124]) = false ∧ (s.toList == [94]) = false ∧ (s.toList == [38, 94]) = false :=
  ⟨toList_ne fun e => h .and (.inl ⟨rfl, e⟩), toList_ne fun e => h .or (.inr (.inl ⟨rfl, e⟩)), toList_ne fun e => h .xor (.inr (.inr (.inl ⟨rfl, e⟩))), toList_ne fun e => h .andNot (.inr (.inr (.inr ⟨rfl, e⟩)))⟩
set_option maxRecDepth 20000 in
set_option maxHeartbeats 4000000 in
theorem rBitwise_no {w : World} {u v : Value} {y z : Int} {m n : Nat} (s : ByteArray) (hs : ∀ o, ¬ OpText o s) (hu : Rint w u y m) (hv : Rint w v z n) (hm : m ≤ 30) (hn : n ≤ 30) :
    Calls Try.prog 28 #[.string s, u, v] w fun e w' => e = .returned (.tuple #[.agg #[.bool false, .slice none 0 0], .bool false]) ∧ Below w.heap.size w w' := by
  obtain ⟨nu, au, lu, cu, rfl⟩ := hu.form
  obtain ⟨nv, av, lv, cv, rfl⟩ := hv.form
  obtain ⟨W, hW, hbW, hlt, ⟨c0, c1, c2, c3, c4, c5⟩, f4, hbox⟩ := boxes3t w (.bool nu) (.slice au lu cu) (.bool nv) (.slice av lv cv) false none 0 0 30
  have hU := hu.next hbW
  have hV := hv.next hbW
  have k1 := rBits_num hU (by omega)
  replace k1 : Hid _ := k1
  go_enter Try.func28, Try.ntmps28
  go_wp2_with fail
  rw [← hW]
  clear hW
  refine Calls.mono k1.out ?_
  rintro e w1 ⟨L1, rfl, hL1, hb1⟩
  clear k1
  have d2 := keep_cell hb1 c2
  have d3 := keep_cell hb1 c3
  have k2 := rBits_num (hV.next hb1) (by omega)
  replace k2 : Hid _ := k2
  go_wp2_with fail
  refine Calls.mono k2.out ?_
  rintro e w2 ⟨L2, rfl, hL2, hb2⟩
  clear k2 d2 d3
  have hb12 := bthen hb1 hb2
  have e2 := keep_cell hb12 c2
  have e3 := keep_cell hb12 c3
  have hL1m : L1 ≤ 16 * m := hL1.le hu
  have hL2m : L2 ≤ 16 * n := hL2.le hv
  go_upto_if 22 with fail
  go_cut [8] from 17 (fun N w3 => ∃ L : Nat, N = .int .i64 L ∧ L1 ≤ L ∧ L2 ≤ L ∧ L ≤ 480 ∧ Below W.heap.size W w3)
  case first =>
    by_cases hgt : L1 < L2
    · have k3 := rBits_num ((hV.next hb12)) (by omega)
      replace k3 : Hid _ := k3
      go_wp2_with fail
      refine Calls.mono k3.out ?_
      rintro e w3 ⟨L3, rfl, hL3, hb3⟩
      have h23 := hL2.unique hL3
      go_wp2_with fail
      go_meet
      case rel => exact ⟨L3, rfl, by omega, by omega, by omega, bthen hb12 hb3⟩
    · go_wp2_with fail
      go_meet
      case rel => exact ⟨L1, rfl, by omega, by omega, by omega, hb12⟩
  case rest =>
    obtain ⟨L, rfl, hLa, hLb, hL, hb3⟩ := hcut
    have wy : Wide y (L + 2) := ⟨Int.lt_of_lt_of_le hL1.1 (pow_mono (by decide) hLa), by omega⟩
    have wz : Wide z (L + 2) := ⟨Int.lt_of_lt_of_le hL2.1 (pow_mono (by decide) hLb), by omega⟩
    have q0 := keep_cell hb3 c0
    have q1 := keep_cell hb3 c1
    have q2 := keep_cell hb3 c2
    have q3 := keep_cell hb3 c3
    have q4 := keep_cell hb3 c4
    have q5 := keep_cell hb3 c5
    have g4 := keep_frozen hb3 c4 (f4 0)
    have g5 := keep_frozen hb3 c5 (f4 1)
    have bx := hbox.next hb3
    have hU3 := hU.next hb3
    have hV3 := hV.next hb3
    have hB3 := bthen hbW hb3
    clear c0 c1 c2 c3 c4 c5 f4 hbox hU hV hb3 hb12 hb1 hb2 e2 e3 hL1 hL2 hlt hbW hL1m hL2m hLa hLb
    generalize wc = W3 at *
    go_wp2
    go_cut [9, 10] from 27 (fun p q w4 => ∃ gx gy, p = .pointer (some ⟨gx, 0, none⟩) ∧ q = .pointer (some ⟨gy, 0, none⟩) ∧ Holds w4 gx (fun v => Rint w4 v (y % 2 ^ (L + 2)) 70) ∧ Holds w4 gy (fun v => Rint w4 v (z % 2 ^ (L + 2)) 70) ∧ Below W3.heap.size W3 w4)
    case first =>
      rename_i J K' hJ hK'
      refine wp_region_boxes (lowV W3.heap.size w.heap.size (w.heap.size + 1) (L + 2) (.agg #[.bool nu, .slice au lu cu]) (.agg #[.bool nv, .slice av lv cv]) (y % 2 ^ (L + 2)) (z % 2 ^ (L + 2))) NBox (lowC (y % 2 ^ (L + 2)) (z % 2 ^ (L + 2))) [4, 5, 8] [9, 10] [(8, 9), (9, 10)] 105 (by kernel_rfl) (by kernel_rfl) rfl lowV_next lowV_chg ?hA lowC_next lowC_chg ?hstart (StepsFrom.all ?hstep) ?hend
      case hA =>
        intro s v w' hs hv
        have hs' : s = 9 ∨ s = 10 := by simpa using hs
        rcases hs' with rfl | rfl <;> exact BoxPtr.has hv
      case hstart =>
        intro t ht
        simp only [List.mem_cons, List.not_mem_nil, or_false] at ht
        rcases ht with rfl | rfl | rfl
        · rfl
        · rfl
        · show Value.int .i64 _ = Value.int .i64 _
          rfl
      case hstep =>
        refine ⟨?s0, ?s1, ?s2, ?s3, ?s4, ?s5, ?s6, ?s7, ?s8, ?s9, trivial⟩
        case s0 => exact plain_at (StepOk.of (guard_none rfl) fun b w' _ hW hl K hK => ld30 (keep_cell hW q0) (keep_cell hW q1) 4 rfl (look hl 4 (by kernel_rfl)) (hK _ _ (Below.refl _ _) (dst_eq rfl rfl))) (dst_eq rfl rfl) rfl
        case s1 => exact plain_at (step_move 8 28 rfl rfl (guard_none rfl) (by kernel_rfl) (fun v w h => h)) (dst_eq rfl rfl) rfl
        case s2 => exact plain_at (step_call2 57 27 28 29 _ (by kernel_rfl) rfl rfl (guard_none rfl) (by kernel_rfl) (by kernel_rfl) (fun u v w' hW hu hv => by subst hu; subst hv; exact (low_num (L + 2) (hU3.next hW) (by omega) (by omega)).mono fun e w'' h => by obtain ⟨t, h1, h2, h3⟩ := h; exact ⟨t, h1, h2.mono (by omega), h3⟩)) (dst_eq rfl rfl) rfl
        case s3 => exact plain_at (StepOk.of (guard_none rfl) fun b w' _ hW hl K hK => ld30 (keep_cell hW q2) (keep_cell hW q3) 5 rfl (look hl 5 (by kernel_rfl)) (hK _ _ (Below.refl _ _) (dst_eq rfl rfl))) (dst_eq rfl rfl) rfl
        case s4 => exact plain_at (step_move 8 31 rfl rfl (guard_none rfl) (by kernel_rfl) (fun v w h => h)) (dst_eq rfl rfl) rfl
        case s5 => exact plain_at (step_call2 57 30 31 32 _ (by kernel_rfl) rfl rfl (guard_none rfl) (by kernel_rfl) (by kernel_rfl) (fun u v w' hW hu hv => by subst hu; subst hv; exact (low_num (L + 2) (hV3.next hW) (by omega) (by omega)).mono fun e w'' h => by obtain ⟨t, h1, h2, h3⟩ := h; exact ⟨t, h1, h2.mono (by omega), h3⟩)) (dst_eq rfl rfl) rfl
        case s6 => exact new_at (step_new 9 (.inl rfl) rfl rfl (fun v w h => h)) rfl rfl rfl
        case s7 => exact new_at (step_new 10 (.inl rfl) rfl rfl (fun v w h => h)) rfl rfl rfl
        case s8 => exact put_at (step_put 8 9 29 (.inl rfl) rfl rfl (by kernel_rfl) (fun v w h => Rint.form h) (fun g w' w'' m a l c hv hc hb _ r0 r1 => ⟨m, a, l, c, r0, r1, Rint.chg hv hc hb⟩)) rfl rfl (by kernel_rfl)
        case s9 => exact put_at (step_put 9 10 32 (.inl rfl) rfl rfl (by kernel_rfl) (fun v w h => Rint.form h) (fun g w' w'' m a l c hv hc hb _ r0 r1 => ⟨m, a, l, c, r0, r1, Rint.chg hv hc hb⟩)) rfl rfl (by kernel_rfl)
      case hend =>
        rintro ⟨tm, df⟩ w' hs hd hW hv hdis hC hfr
        obtain ⟨g9, e9, _, _⟩ := hv 9 (.inr ⟨6, _, rfl, rfl⟩)
        obtain ⟨g10, e10, _, _⟩ := hv 10 (.inr ⟨7, _, rfl, rfl⟩)
        have c8 := hC 8 9 (by simp) (by decide) g9 e9
        have c9 := hC 9 10 (by simp) (by decide) g10 e10
        obtain ⟨xs, htm, hxs⟩ := frame_mixed hfr hs
        have x9 : xs.getD 9 undef = .pointer (some ⟨g9, 0, none⟩) := (hxs 9).trans e9
        have x10 : xs.getD 10 undef = .pointer (some ⟨g10, 0, none⟩) := (hxs 10).trans e10
        clear hxs hv hdis hC hfr e9 e10
        subst htm
        obtain rfl := hd
        refine hK' _ _ (Met.intro (hJ _ _ ?_))
        (repeat apply Exists.intro)
        refine ⟨?rel, rfl⟩
        case rel => exact ⟨g9, g10, x9, x10, c8, c9, hW⟩
    case rest =>
      obtain ⟨gx, gy, rfl, rfl, ⟨mx, ax, kx, cx, x0, x1, hX⟩, ⟨my, ay, ky, cy, y0, y1, hY⟩, hb4⟩ := hcut
      have q4' := keep_cell hb4 q4
      have q5' := keep_cell hb4 q5
      have g4' := keep_frozen hb4 q4 g4
      have g5' := keep_frozen hb4 q5 g5
      have bx4 := bx.next hb4
      have hB4 := bthen hB3 hb4
      clear q0 q1 q2 q3 q4 q5 g4 g5 bx hU3 hV3 hB3 hb4
      generalize wc = W4 at *
      have hX0 := Int.emod_nonneg y (b := 2 ^ (L + 2)) (by have := two_pow_pos (L + 2); omega)
      have hY0 := Int.emod_nonneg z (b := 2 ^ (L + 2)) (by have := two_pow_pos (L + 2); omega)
      obtain ⟨i0, hi, hz0, hz1, hz2⟩ := info_parts Try.info3
      have hD : Below W4.heap.size W4 (W4.alloc (.cells #[.int .i64 0] 3)) := (Below.refl _ _).alloc (Nat.le_refl _) _
      obtain ⟨a2, cap2, w2, hrun, hown2, hb2⟩ := run_append_row (P := Try.prog) (W4.alloc (.cells #[.int .i64 0] 3)) 28 28 3 W4.heap.size .i64 8 65536 i0 Try.underlying28 hi hz0 hz1 hz2 none 0 0 [] (Own.empty _ _ _ _ _) rfl ⟨W4.heap.size, 0, none⟩ 1 1 [0] (Row.alloc1 W4 .i64 3 65536 0 (by decide)) rfl (by omega) (by omega) (by omega) (by simp)
      replace hrun : Hid _ := hrun
      have hbel : Below W4.heap.size W4 w2 := hD.trans hb2
      have x1' := keep_cell hbel x1
      have y1' := keep_cell hbel y1
      have q4 := keep_cell hbel q4'
      have q5 := keep_cell hbel q5'
      have g4 := keep_frozen hbel q4' g4'
      have g5 := keep_frozen hbel q5' g5'
      have hB5 := bthen hB4 hbel
      have kb1 := fun n => bit_num ((hX.next hbel).next (below_drewN (Below.refl _ w2) n)) hX0 (by decide) 0 (by omega)
      have kb2 := fun n => bit_num ((hY.next hbel).next (below_drewN (Below.refl _ w2) n)) hY0 (by decide) 0 (by omega)
      replace kb1 : Hid _ := kb1
      replace kb2 : Hid _ := kb2
      have hneq := opText_no hs
      obtain ⟨n1, n2, n3, n4⟩ := hneq
      clear hs hX hY
      go_wp2
      refine wp_loop_rounds 1 ?_
      rw [rounds_succ]
      go_wp2_with (at_builtin; refine wpList_append_run (by rfl) (.tmp 41) (.tmp 42) 28 28 (by rfl) (.slice none 0 0) (.slice (some ⟨W4.heap.size, 0, none⟩) 1 1) (by rfl) (by rfl) _ _ hrun.out ?_)
      go_quiet ((first | (go_at_call_of 53 (Value.slice ax kx cx); exact Calls.quiet_of_same (kb1.out _)) | (go_at_call_of 53 (Value.slice ay ky cy); exact Calls.quiet_of_same (kb2.out _))))
      go_wp2
      refine bodyPost_ret (v := .tuple #[.agg #[.bool false, .slice none 0 0], .bool false]) (by simp [results, Try.results28, go_sem, q4, q5]) rfl ⟨rfl, ((below_drewN hB5 _).setCell (by simp; omega) _).setCell (by simp; omega) _⟩
end Go.Proofs.Ytdcjgepgiaaaoaa
