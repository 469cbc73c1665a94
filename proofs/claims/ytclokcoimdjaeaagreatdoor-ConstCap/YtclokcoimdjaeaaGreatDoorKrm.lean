/- Plain mathematics of long division: the guess of a word, rows shifted by bits, rows less a multiple. -/
import Derived.Test.YtclokcoimdjaeaaGreatDoorLeafm
import Derived.Test.YtclokcoimdjaeaaGreatDoorQuom
namespace Go.Proofs.YtclokcoimdjaeaaGreatDoor
theorem mul_mono_l {a b c : Int} (h : a ≤ b) (hc : 0 ≤ c) : c * a ≤ c * b := Int.mul_le_mul_of_nonneg_left h hc
theorem mul_mono_r {a b c : Int} (h : a ≤ b) (hc : 0 ≤ c) : a * c ≤ b * c := Int.mul_le_mul_of_nonneg_right h hc
/-- The three highest words of the one, the two highest of the other; X is the weight of the rest. -/
structure Tops (B X R D T r0 d1 d0 : Int) : Prop where
  hB : 1 < B
  hX : 0 < X
  hR : ∃ l, 0 ≤ l ∧ l < X ∧ R = (T * B + r0) * X + l
  hD : ∃ m, 0 ≤ m ∧ m < X ∧ D = (d1 * B + d0) * X + m
  r0 : 0 ≤ r0 ∧ r0 < B
  d0 : 0 ≤ d0 ∧ d0 < B
  d1 : 0 < d1
section
variable {B X R D T r0 d1 d0 g left : Int}
theorem Tops.big (h : Tops B X R D T r0 d1 d0) (hg : 0 ≤ g) (hh : T * B + r0 + 1 ≤ g * (d1 * B + d0)) : R < g * D := by
  obtain ⟨l, _, hl1, rfl⟩ := h.hR
  obtain ⟨m, hm0, hm1, rfl⟩ := h.hD
  have h1 := mul_mono_r hh (Int.le_of_lt h.hX)
  have h2 := Int.mul_nonneg hg hm0
  rw [Int.add_mul, Int.one_mul] at h1
  rw [Int.mul_add, ← Int.mul_assoc]
  omega
theorem Tops.small (h : Tops B X R D T r0 d1 d0) (_hg : 0 ≤ g) (hgB : g < B) (hh : g * (d1 * B + d0) ≤ T * B + r0) : g * D < R + D := by
  obtain ⟨l, hl0, _, rfl⟩ := h.hR
  obtain ⟨m, hm0, hm1, rfl⟩ := h.hD
  have hB := h.hB
  have hX := h.hX
  have h1 := mul_mono_r hh (Int.le_of_lt h.hX)
  have h2 : g * m ≤ B * m := mul_mono_r (by omega) hm0
  have h3 : B * m < B * X := Int.mul_lt_mul_of_pos_left hm1 (by omega)
  have h4 : B * X ≤ (d1 * B + d0) * X := mul_mono_r (by
    have := h.d1
    have := h.d0
    have := mul_mono_r (show (1 : Int) ≤ d1 by omega) (show (0 : Int) ≤ B by omega)
    omega) (by omega)
  rw [Int.mul_add, ← Int.mul_assoc]
  omega
/-- Where the guess begins. -/
theorem Tops.start (h : Tops B X R D T r0 d1 d0) (hT : 0 ≤ T) : R < (T / d1 + 1) * D := by
  have hq := Int.ediv_nonneg hT (Int.le_of_lt h.d1)
  refine h.big (by omega) ?_
  have h1 := Int.lt_ediv_add_one_mul_self T h.d1
  have h2 := mul_mono_r (show T + 1 ≤ (T / d1 + 1) * d1 by omega) (show (0 : Int) ≤ B by have := h.hB; omega)
  have h3 := Int.mul_nonneg (show 0 ≤ T / d1 + 1 by omega) h.d0.1
  have := h.r0
  rw [Int.mul_add, ← Int.mul_assoc]
  rw [Int.add_mul, Int.one_mul] at h2
  omega
theorem Tops.down (h : Tops B X R D T r0 d1 d0) (hg : 0 ≤ g) (he : g * d1 + left = T) (hc : left * B + r0 < g * d0) : R < g * D := by
  refine h.big hg ?_
  subst he
  rw [Int.mul_add, Int.add_mul, ← Int.mul_assoc]
  omega
theorem Tops.stop (h : Tops B X R D T r0 d1 d0) (hg : 0 ≤ g) (hgB : g < B) (he : g * d1 + left = T) (hc : g * d0 ≤ left * B + r0) : g * D < R + D := by
  refine h.small hg hgB ?_
  subst he
  rw [Int.mul_add, Int.add_mul, ← Int.mul_assoc]
  omega
/-- The highest word is not above the divisor's. -/
theorem Tops.high (h : Tops B X R D T r0 d1 d0) {r2 r1 : Int} (hT : T = r2 * B + r1) (h1 : 0 ≤ r1) (hR : R < D * B) : r2 ≤ d1 := by
  by_cases hc : r2 ≤ d1
  · exact hc
  · exfalso
    obtain ⟨l, hl0, _, rfl⟩ := h.hR
    obtain ⟨m, hm0, hm1, rfl⟩ := h.hD
    have hB := h.hB
    have hX := h.hX
    have e1 : (d1 * B + d0 + 1) * X ≤ ((d1 + 1) * B) * X := mul_mono_r (by have := h.d0; rw [Int.add_mul]; omega) (by omega)
    have e2 : ((d1 * B + d0) * X + m) * B ≤ (((d1 + 1) * B) * X) * B := mul_mono_r (by rw [Int.add_mul (d1 * B + d0) 1 X] at e1; omega) (by omega)
    have e3 : (d1 + 1) * B ≤ T := by
      have := mul_mono_r (show d1 + 1 ≤ r2 by omega) (show (0 : Int) ≤ B by omega)
      omega
    have e4 : ((d1 + 1) * B) * B ≤ T * B := mul_mono_r e3 (by omega)
    have e5 : (((d1 + 1) * B) * B) * X ≤ (T * B + r0) * X := mul_mono_r (by have := h.r0; omega) (by omega)
    have e6 : (((d1 + 1) * B) * X) * B = (((d1 + 1) * B) * B) * X := by rw [Int.mul_assoc, Int.mul_comm X B, ← Int.mul_assoc]
    omega
end
theorem at_out {zs : List Int} {k : Nat} (h : ¬ k < zs.length) : zs[k]?.getD 0 = 0 := by rw [List.getElem?_eq_none (by omega)]; rfl
theorem tops_ring3 (V r0 r1 r2 X B : Int) : V + r0 * X + r1 * (X * B) + r2 * (X * B * B) = ((r2 * B + r1) * B + r0) * X + V := by
  have h1 : r1 * (X * B) = r1 * B * X := by rw [Int.mul_comm X B, ← Int.mul_assoc]
  have h2 : r2 * (X * B * B) = r2 * B * B * X := by rw [Int.mul_comm X B, Int.mul_assoc B X B, Int.mul_comm X B, ← Int.mul_assoc, ← Int.mul_assoc]
  rw [Int.add_mul, Int.add_mul, Int.add_mul, h1, h2]
  omega
theorem tops_ring2 (V r0 r1 X B : Int) : V + r0 * X + r1 * (X * B) = (r1 * B + r0) * X + V := by
  have h1 : r1 * (X * B) = r1 * B * X := by rw [Int.mul_comm X B, ← Int.mul_assoc]
  rw [Int.add_mul, h1]
  omega
/-- The highest words of two rows, the one a word longer. -/
theorem tops_of {rs ys : List Int} {m : Nat} (hr : Words 4294967296 rs) (hy : Words 4294967296 ys) (lr : rs.length = m + 2 + 1) (ly : ys.length = m + 2) (hd : 0 < ys[m + 1]?.getD 0) :
    Tops 4294967296 (4294967296 ^ m) (val 4294967296 rs) (val 4294967296 ys) (rs[m + 2]?.getD 0 * 4294967296 + rs[m + 1]?.getD 0) (rs[m]?.getD 0) (ys[m + 1]?.getD 0) (ys[m]?.getD 0) := by
  have e1 := val_take_succ 4294967296 rs (m + 2)
  have e2 := val_take_succ 4294967296 rs (m + 1)
  have e3 := val_take_succ 4294967296 rs m
  have f2 := val_take_succ 4294967296 ys (m + 1)
  have f3 := val_take_succ 4294967296 ys m
  rw [take_all (by omega)] at e1
  rw [take_all (n := m + 1 + 1) (by omega)] at f2
  rw [show m + 2 = m + 1 + 1 from rfl, e2, e3] at e1
  rw [f3] at f2
  have g1 := val_nonneg (B := 4294967296) (by decide) (hr.take m)
  have g2 := val_lt (B := 4294967296) (by decide) (hr.take m)
  rw [List.length_take, Nat.min_eq_left (by omega)] at g2
  have k1 := val_nonneg (B := 4294967296) (by decide) (hy.take m)
  have k2 := val_lt (B := 4294967296) (by decide) (hy.take m)
  rw [List.length_take, Nat.min_eq_left (by omega)] at k2
  refine ⟨by decide, pow_pos' (by decide) m, ⟨_, g1, g2, ?_⟩, ⟨_, k1, k2, ?_⟩, hr.at (by decide) m, hy.at (by decide) m, hd⟩
  · rw [e1, Int.pow_succ, Int.pow_succ]
    exact tops_ring3 _ _ _ _ _ _
  · rw [f2, Int.pow_succ]
    exact tops_ring2 _ _ _ _ _
/-- One step of a row less another row times a digit. -/
theorem subsc_step {B : Int} {ys zs ss : List Int} {k : Nat} {s c b c' b' y z d : Int} (hs : k < ss.length) (hy : ys[k]?.getD 0 = y) (hz : zs[k]?.getD 0 = z) (hd : d = z - (y * s + c) % B - b + B * b') (hc : c' = (y * s + c) / B)
    (h : val B (ss.take k) - (c + b) * B ^ k = val B (zs.take k) - s * val B (ys.take k)) :
    val B ((ss.set k d).take (k + 1)) - (c' + b') * B ^ (k + 1) = val B (zs.take (k + 1)) - s * val B (ys.take (k + 1)) := by
  rw [val_set_take B ss k _ hs, val_take_succ B zs, val_take_succ B ys, hy, hz, Int.pow_succ, hd, hc]
  have h1 := Int.emod_add_mul_ediv (y * s + c) B
  generalize (y * s + c) / B = q at *
  generalize (y * s + c) % B = r at *
  have h3 : (q + b') * (B ^ k * B) = (B * q + B * b') * B ^ k := by
    rw [← Int.mul_add B, Int.mul_comm (B ^ k) B, ← Int.mul_assoc, Int.mul_comm (q + b') B]
  have h4 : s * (val B (ys.take k) + y * B ^ k) = s * val B (ys.take k) + (y * s) * B ^ k := by rw [Int.mul_add, ← Int.mul_assoc, Int.mul_comm y s]
  rw [h3, h4]
  have h5 : (z - r - b + B * b') * B ^ k - (B * q + B * b') * B ^ k = (z - b) * B ^ k - (r + B * q) * B ^ k := by
    rw [← Int.sub_mul, ← Int.sub_mul]
    congr 1
    omega
  rw [h1] at h5
  simp only [Int.add_mul, Int.sub_mul] at h5 h ⊢
  omega
/-- A row whose number is below B^n has noughts from place n on. -/
theorem val_take_small {B : Int} (hB : 0 < B) {zs : List Int} (hw : Words B zs) {n : Nat} (h : val B zs < B ^ n) : val B (zs.take n) = val B zs := by
  by_cases hn : n ≤ zs.length
  · have e := val_split B zs n hn
    have h1 := val_nonneg hB (hw.take n)
    have h2 := val_nonneg hB (hw.drop n)
    have hp := pow_pos' hB n
    have h3 : val B (zs.drop n) = 0 := by
      by_cases h0 : val B (zs.drop n) = 0
      · exact h0
      · have := mul_mono_l (show 1 ≤ val B (zs.drop n) by omega) (Int.le_of_lt hp)
        omega
    rw [h3] at e
    simp at e
    omega
  · rw [List.take_of_length_le (by omega)]
theorem drop_set {zs : List Int} {o k : Nat} {x : Int} : (zs.set (o + k) x).drop o = (zs.drop o).set k x := by
  induction o generalizing zs with
  | zero => simp
  | succ o ih =>
    cases zs with
    | nil => simp
    | cons d ds =>
      rw [show o + 1 + k = (o + k) + 1 from by omega]
      simpa using ih
theorem drop_at (zs : List Int) (o k : Nat) : (zs.drop o)[k]?.getD 0 = zs[o + k]?.getD 0 := by rw [List.getElem?_drop]
/-- One step of a row times 2^c. -/
theorem shl_step {B : Int} {xs ss : List Int} {k : Nat} {f c p : Int} (hs : k < ss.length) (hx : xs[k]?.getD 0 = p) (h : val B (ss.take k) + c * B ^ k = val B (xs.take k) * f) :
    val B ((ss.set k ((p * f + c) % B)).take (k + 1)) + ((p * f + c) / B) * B ^ (k + 1) = val B (xs.take (k + 1)) * f := by
  rw [val_set_take B ss k _ hs, val_take_succ B xs, hx, Int.pow_succ]
  have h1 := Int.emod_add_mul_ediv (p * f + c) B
  have h2 : ((p * f + c) % B + B * ((p * f + c) / B)) * B ^ k = (p * f + c) * B ^ k := by rw [h1]
  have h3 : (p * f + c) / B * (B ^ k * B) = B * ((p * f + c) / B) * B ^ k := by rw [Int.mul_comm B, Int.mul_assoc, Int.mul_comm B]
  have h4 : p * B ^ k * f = p * f * B ^ k := by rw [Int.mul_assoc, Int.mul_comm (B ^ k), ← Int.mul_assoc]
  simp only [Int.add_mul] at h2 ⊢
  rw [h4]
  omega
/-- One step of a row divided by 2^c, from the top: f = 2^c divides B. -/
theorem shr_step {B f e : Int} (hf : 0 < f) (he : B = f * e) (hB : 0 < B) {zs ss : List Int} {k : Nat} {z a : Int} (hs : k < ss.length) (hz : zs[k]?.getD 0 = z) (h0 : 0 ≤ z) (h1 : z < B) (ha : zs[k + 1]?.getD 0 = a)
    (h : val B (ss.drop (k + 1)) = val B (zs.drop (k + 1)) / f) : val B ((ss.set k ((a * B + z) / f % B)).drop k) = val B (zs.drop k) / f := by
  rw [val_set_drop _ _ _ _ hs, val_drop B zs k, hz, h]
  have hv : val B (zs.drop (k + 1)) = a + f * (e * val B (zs.drop (k + 1 + 1))) := by rw [val_drop B zs (k + 1), ha, ← Int.mul_assoc, ← he]
  generalize val B (zs.drop (k + 1)) = V at *
  generalize e * val B (zs.drop (k + 1 + 1)) = u at *
  have hq : V / f = a / f + u := by rw [hv, Int.add_mul_ediv_left _ _ (by omega)]
  have hr := Int.emod_add_mul_ediv a f
  have hr0 := Int.emod_nonneg a (b := f) (by omega)
  have hr1 := Int.emod_lt_of_pos a hf
  generalize a / f = a' at *
  generalize a % f = r at *
  have e1 : a * B + z = (r * B + z) + f * (a' * B) := by rw [← hr, Int.add_mul, Int.mul_assoc]; omega
  have e2 : z + B * V = (r * B + z) + f * (B * (a' + u)) := by
    have e5 : B * (r + f * a' + f * u) = B * r + B * (f * (a' + u)) := by rw [Int.mul_add f, ← Int.mul_add B, Int.add_assoc]
    have e6 : f * (B * (a' + u)) = B * (f * (a' + u)) := by rw [← Int.mul_assoc, Int.mul_comm f B, Int.mul_assoc]
    rw [hv, ← hr, e5, e6, Int.mul_comm B r]
    omega
  rw [e1, e2, Int.add_mul_ediv_left _ _ (by omega), Int.add_mul_ediv_left _ _ (by omega)]
  have e3 : 0 ≤ (r * B + z) / f := Int.ediv_nonneg (by have := Int.mul_nonneg hr0 (Int.le_of_lt hB); omega) (by omega)
  have e4 : (r * B + z) / f < B := Int.ediv_lt_of_lt_mul hf (by
    have := mul_mono_r (show r + 1 ≤ f by omega) (show (0 : Int) ≤ B by omega)
    rw [Int.add_mul] at this
    rw [Int.mul_comm B f]
    omega)
  rw [Int.add_mul_emod_self_right, Int.emod_eq_of_lt e3 e4, hq]
end Go.Proofs.YtclokcoimdjaeaaGreatDoor
namespace Go.Proofs.YtclokcoimdjaeaaGreatDoor
open Go.RowKit
attribute [local go_sem ↓] Go.wp_at_zero Go.wp_at_succ
theorem bits_or64' (p z : Int) (c : Nat) (hc : c ≤ 32) (hp0 : 0 ≤ p) (hp1 : p < 4294967296) (hz0 : 0 ≤ z) (hz1 : z < 2 ^ c) : bits .or .u64 (p * 2 ^ c) z = p * 2 ^ c + z := by
  have hm : (2 : Int) ^ c ≤ 2 ^ 32 := pow_mono (by decide) hc
  have hm' : (2 : Nat) ^ c ≤ 2 ^ 32 := Nat.pow_le_pow_right (by decide) hc
  have e1 : p * 2 ^ c = ((p.toNat * 2 ^ c : Nat) : Int) := by
    have : (p.toNat : Int) = p := by omega
    simp [this]
  have e2 : z = (z.toNat : Int) := by omega
  have hzn : z.toNat < 2 ^ c := by
    have : ((2 ^ c : Nat) : Int) = 2 ^ c := by simp
    omega
  have e3 : p.toNat * 2 ^ c ||| z.toNat = p.toNat * 2 ^ c + z.toNat := by
    have := Nat.shiftLeft_add_eq_or_of_lt (i := c) (b := z.toNat) hzn p.toNat
    rw [Nat.shiftLeft_eq] at this
    exact this.symm
  have hpb : p.toNat * 2 ^ c ≤ 4294967295 * 2 ^ 32 := Nat.mul_le_mul (by omega) hm'
  have key := bits_or64_nat (p.toNat * 2 ^ c) z.toNat (by omega) (by omega)
  rw [e3, ← e1, ← e2] at key
  rw [key]
  omega
theorem wrap_u64 (m : Int) (h0 : 0 ≤ m) (h1 : m < 18446744073709551616) : IntKind.u64.wrap m = m := by
  have hw : IntKind.u64.wrap m = m % 18446744073709551616 := by simp [IntKind.wrap, IntKind.bits, IntKind.signed]
  rw [hw]; omega
theorem mul_pow_lt {p : Int} {c : Nat} (hc : c ≤ 32) (hp0 : 0 ≤ p) (hp1 : p < 4294967296) : 0 ≤ p * 2 ^ c ∧ p * 2 ^ c ≤ 18446744069414584320 := by
  have h1 := pow_pos' (B := 2) (by decide) c
  have h2 : (2 : Int) ^ c ≤ 2 ^ 32 := pow_mono (by decide) hc
  refine ⟨Int.mul_nonneg hp0 (Int.le_of_lt h1), ?_⟩
  have h3 := Int.mul_le_mul_of_nonneg_left h2 hp0
  have h4 : p * 2 ^ 32 ≤ 4294967295 * 2 ^ 32 := Int.mul_le_mul_of_nonneg_right (by omega) (by decide)
  omega
theorem shl_lt {p cc : Int} {c : Nat} (hp1 : p < 4294967296) (hc1 : cc < 2 ^ c) : (p * 2 ^ c + cc) / 4294967296 < 2 ^ c := by
  have h1 := pow_pos' (B := 2) (by decide) c
  refine Int.ediv_lt_of_lt_mul (by decide) ?_
  have h3 := Int.mul_le_mul_of_nonneg_right (show p + 1 ≤ 4294967296 by omega) (Int.le_of_lt h1)
  rw [Int.add_mul] at h3
  rw [Int.mul_comm (2 ^ c)]
  omega
set_option maxHeartbeats 1000000 in
theorem shiftLeft_any (x : Option Addr) (ca : Nat) (xs : List Int) (c size : Nat) (w : World) (ha : Row w .u32 4294967296 x ca xs) (hl : xs.length ≤ 1000000) (hc : c < 32) (hs : size = xs.length ∨ size = xs.length + 1) (hv : val 4294967296 xs * 2 ^ c < 4294967296 ^ size) :
    Calls Tryz.prog 280 #[.slice x xs.length ca, .int .i64 c, .int .i64 size] w fun e w' => ∃ ss, e = .returned (.slice (some ⟨w.heap.size, 0, none⟩) ss.length ss.length) ∧ Blk w' w.heap.size .u32 139 ss.length ss ∧ ss.length = size ∧ Words 4294967296 ss ∧ val 4294967296 ss = val 4294967296 xs * 2 ^ c ∧ Below w.heap.size w w' := by
  have hmk := mk22 (size : Int) (by omega) (by omega) w
  rw [show (size : Int).toNat = size from by omega] at hmk
  have hpc := pow_pos' (B := 2) (by decide) c
  have hpc2 : (2 : Int) ^ c ≤ 2147483648 := pow_mono (B := 2) (by decide) (m := c) (n := 31) (by omega)
  replace hv : Hid _ := hv
  go_enter Tryz.func280, Tryz.ntmps280
  go_wp2
  go_loopw [8, 9, 10, 11, 16] (fun cy u9 u10 u11 i wr => ∃ (k : Nat) (cc : Int) (ss : List Int), k ≤ xs.length ∧ i = .int .i64 k ∧ cy = .int .u64 cc ∧ 0 ≤ cc ∧ cc < 2 ^ c ∧ Blk wr w.heap.size .u32 139 size ss ∧ ss.length = size ∧ Words 4294967296 ss ∧ Hid (∀ i, k ≤ i → ss[i]?.getD 0 = 0) ∧ Hid (val 4294967296 (ss.take k) + cc * 4294967296 ^ k = val 4294967296 (xs.take k) * 2 ^ c) ∧ Below w.heap.size w wr) (fun _ _ _ _ i _ => xs.length - (intOf i).toNat)
  case atStart => exact ⟨0, 0, zeros size, Nat.zero_le _, rfl, rfl, by omega, by omega, by have := Blk.new w .u32 139 (zeros size) (by rw [zeros_len]; unfold maxLen; omega); rwa [zeros_len] at this, zeros_len _, zeros_words (by decide) _, fun i _ => zeros_at _ i, by simp [val, Hid], (Below.refl _ _).alloc (Nat.le_refl _) _⟩
  case round =>
    obtain ⟨k, cc, ss, hk, rfl, rfl, hc0, hc1, hblk, hsl, hsw, HZ, HV, hbel⟩ := hrel
    by_cases hlt : k < xs.length
    · obtain ⟨x, rfl⟩ := ha.some_of hlt
      obtain ⟨p, hp, hp0, hp1⟩ := ha.words.get (by decide) k
      have hca := (ha.next hbel).cell x rfl k hlt
      have hcs := hblk.cell k (by omega)
      have hfr := hblk.frozen k
      rw [hp] at hca
      generalize ss[k]?.getD 0 = old at hcs
      have hor := bits_or64' p cc c (by omega) hp0 hp1 hc0 hc1
      have hpl := mul_pow_lt (p := p) (c := c) (by omega) hp0 hp1
      have hq1 := shl_lt hp1 hc1
      have hq0 : 0 ≤ (p * 2 ^ c + cc) / 4294967296 := Int.ediv_nonneg (by omega) (by decide)
      have HS : Hid (Hid (val 4294967296 ((ss.set k ((p * 2 ^ c + cc) % 4294967296)).take (k + 1)) + ((p * 2 ^ c + cc) / 4294967296) * 4294967296 ^ (k + 1) = val 4294967296 (xs.take (k + 1)) * 2 ^ c)) := shl_step (by omega) hp HV.out
      clear hp HV
      go_wp2
      go_roundw
      case rel => exact ⟨k + 1, _, _, by omega, by go_num, rfl, hq0, hq1, hblk.set k _, by simpa using hsl, hsw.set k (by omega), fun i hi => by rw [List.getElem?_set_ne (by omega)]; exact HZ.out i (by omega), HS, hbel.setCell (Nat.le_refl _) _⟩
      case measure => simp [intOf]; omega
    · obtain rfl : k = xs.length := by omega
      have HV' := HV.out
      rw [take_all (zs := xs) (Nat.le_refl _)] at HV'
      have hv' := hv.out
      rw [← HV'] at hv'
      have hn1 := val_nonneg (by decide) (hsw.take xs.length)
      rcases hs with hs | hs
      · have hlt' : ¬ (xs.length : Int) < (size : Int) := by omega
        have hcc : cc = 0 := by
          rw [hs] at hv'
          by_cases h : cc = 0
          · exact h
          · have hp := pow_pos' (B := 4294967296) (by decide) xs.length
            have := Int.mul_le_mul_of_nonneg_right (show 1 ≤ cc by omega) (Int.le_of_lt hp)
            omega
        replace HV' : Hid _ := HV'
        clear hv' hn1
        replace hs : Hid _ := hs
        replace hcc : Hid _ := hcc
        go_wp2
        go_ret
        refine ⟨ss, by rw [hsl]; rfl, by rw [hsl]; exact hblk, hsl, hsw, ?_, hbel⟩
        have e := HV'.out
        rw [take_all (by have := hs.out; omega), hcc.out] at e
        omega
      · have hlt' : (xs.length : Int) < (size : Int) := by omega
        have hcs := hblk.cell xs.length (by omega)
        have hfr := hblk.frozen xs.length
        generalize ss[xs.length]?.getD 0 = old at hcs
        have hcm : cc % 4294967296 = cc := by omega
        have HS : Hid (val 4294967296 (ss.set xs.length cc) = val 4294967296 xs * 2 ^ c) := by
          show _ = _
          rw [← HV', ← val_set_take _ _ _ _ (by omega), take_all (by simp; omega)]
        clear hv' hn1 HV' HV
        replace hs : Hid _ := hs
        go_wp2
        go_ret
        have hsl' : (ss.set xs.length cc).length = size := by simpa using hsl
        exact ⟨ss.set xs.length cc, by rw [hsl']; rfl, by rw [hsl']; exact hblk.set _ _, hsl', hsw.set _ (by omega), HS.out, hbel.setCell (Nat.le_refl _) _⟩
theorem pow_split {c : Nat} (hc : c ≤ 32) : (4294967296 : Int) = 2 ^ c * 2 ^ (32 - c) := by
  rw [← Int.pow_add, show c + (32 - c) = 32 from by omega]; rfl
set_option maxHeartbeats 1000000 in
theorem shiftRight_any (x : Option Addr) (ca : Nat) (xs : List Int) (c : Nat) (w : World) (ha : Row w .u32 4294967296 x ca xs) (hl : xs.length ≤ 1000000) (hc : c < 32) :
    Calls Tryz.prog 282 #[.slice x xs.length ca, .int .i64 c] w fun e w' => ∃ ss, e = .returned (.slice (some ⟨w.heap.size, 0, none⟩) ss.length ss.length) ∧ Blk w' w.heap.size .u32 139 ss.length ss ∧ ss.length = xs.length ∧ Words 4294967296 ss ∧ val 4294967296 ss = val 4294967296 xs / 2 ^ c ∧ Below w.heap.size w w' := by
  have hmk := mk22 (xs.length : Int) (by omega) (by omega) w
  rw [show (xs.length : Int).toNat = xs.length from by omega] at hmk
  have hpc := pow_pos' (B := 2) (by decide) c
  have hsp := pow_split (c := c) (by omega)
  replace hsp : Hid _ := hsp
  go_enter Tryz.func282, Tryz.ntmps282
  go_wp2
  go_loopw [6, 7, 8] (fun ab i u8 wr => ∃ (k : Nat) (ss : List Int) (a : Int), k ≤ xs.length ∧ i = .int .i64 (k - 1) ∧ ab = .int .u64 a ∧ Hid (xs[k]?.getD 0 = a) ∧ 0 ≤ a ∧ a < 4294967296 ∧ Blk wr w.heap.size .u32 139 xs.length ss ∧ ss.length = xs.length ∧ Words 4294967296 ss ∧ Hid (val 4294967296 (ss.drop k) = val 4294967296 (xs.drop k) / 2 ^ c) ∧ Below w.heap.size w wr) (fun _ i _ _ => (intOf i + 1).toNat)
  case atStart => exact ⟨xs.length, zeros xs.length, 0, Nat.le_refl _, rfl, rfl, at_out (by omega), by omega, by omega, by have := Blk.new w .u32 139 (zeros xs.length) (by rw [zeros_len]; unfold maxLen; omega); rwa [zeros_len] at this, zeros_len _, zeros_words (by decide) _, by show _ = _; rw [List.drop_eq_nil_of_le (by rw [zeros_len]; omega), List.drop_eq_nil_of_le (by omega)]; simp [val], (Below.refl _ _).alloc (Nat.le_refl _) _⟩
  case round =>
    obtain ⟨k, ss, a, hk, rfl, rfl, HA, ha0, ha1, hblk, hsl, hsw, HV, hbel⟩ := hrel
    cases k with
    | zero =>
      go_wp2
      go_ret
      have e := HV.out
      simp only [List.drop_zero] at e
      exact ⟨ss, by rw [hsl]; rfl, by rw [hsl]; exact hblk, hsl, hsw, e, hbel⟩
    | succ k =>
      obtain ⟨x, rfl⟩ := ha.some_of (i := k) (by omega)
      obtain ⟨p, hp, hp0, hp1⟩ := ha.words.get (by decide) k
      have hca := (ha.next hbel).cell x rfl k (by omega)
      have hcs := hblk.cell k (by omega)
      have hfr := hblk.frozen k
      rw [hp] at hca
      have hca2 : (wr.setCell ⟨w.heap.size, k, none⟩ (.int .u32 ((a * 4294967296 + p) / 2 ^ c % 4294967296))).cell? (x.add k) = some (.int .u32 p) := ((ha.next (hbel.setCell (p := ⟨w.heap.size, k, none⟩) (Nat.le_refl _) _)).cell x rfl k (by omega)).trans (by rw [hp])
      generalize ss[k]?.getD 0 = old at hcs
      have hor := bits_or64 a p ha0 ha1 hp0 hp1
      have HS : Hid (Hid (val 4294967296 ((ss.set k ((a * 4294967296 + p) / 2 ^ c % 4294967296)).drop k) = val 4294967296 (xs.drop k) / 2 ^ c)) := shr_step hpc hsp.out (by decide) (by omega) hp hp0 hp1 HA.out HV.out
      have hq0 : 0 ≤ (a * 4294967296 + p) / 2 ^ c := Int.ediv_nonneg (by omega) (by omega)
      have hq1 : (a * 4294967296 + p) / 2 ^ c ≤ 18446744073709551615 := by
        refine Int.le_trans (Int.ediv_le_self _ (by omega)) (by omega)
      have HP : Hid (Hid (xs[k]?.getD 0 = p)) := hp
      clear hp HV
      go_wp2
      go_roundw
      case rel => exact ⟨k, _, p, by omega, rfl, rfl, HP, hp0, hp1, hblk.set k _, by simpa using hsl, hsw.set k (by omega), HS, hbel.setCell (Nat.le_refl _) _⟩
      case measure => simp [intOf]
theorem lz32 (x : Int) (w : World) (h0 : 0 ≤ x) (h1 : x ≤ 4294967295) :
    Calls Tryz.prog 279 #[.int .u32 x] w fun e w' => e = .returned (.int .i64 (32 - (Lib.bitLen x.toNat : Int))) ∧ w' = w := by
  have hb := Lib.bitLen_le x.toNat 32 (by decide) (by omega)
  go_enter Tryz.func279, Tryz.ntmps279
  go_wp2_with (go_at_call 228; refine (len32 x _ h0 h1).mono ?_; rintro e w' ⟨rfl, rfl⟩)
  go_ret
  exact ⟨rfl, rfl⟩
end Go.Proofs.YtclokcoimdjaeaaGreatDoor
namespace Go.Proofs.YtclokcoimdjaeaaGreatDoor
open Go.RowKit
attribute [local go_sem ↓] Go.wp_at_zero Go.wp_at_succ
theorem add_one_off (x : Addr) (n : Nat) : x.add (n + 1) = ⟨x.block, x.off + (n + 1), none⟩ := by simp [Addr.add]
set_option maxHeartbeats 2000000 in
theorem guessWord_any (x y : Addr) (ca cb m : Nat) (rs ys : List Int) (w : World) (ha : Row w .u32 4294967296 (some x) ca rs) (hb : Row w .u32 4294967296 (some y) cb ys) (lr : rs.length = m + 2 + 1) (ly : ys.length = m + 2) (hl : m ≤ 1000000) (hd : 2147483648 ≤ ys[m + 1]?.getD 0) (hR : val 4294967296 rs < val 4294967296 ys * 4294967296) :
    Calls Tryz.prog 294 #[.slice (some x) (m + 2 + 1) ca, .slice (some y) (m + 2) cb] w fun e w' => ∃ q : Int, e = .returned (.int .u32 q) ∧ 0 ≤ q ∧ q < 4294967296 ∧ q * val 4294967296 ys < val 4294967296 rs + val 4294967296 ys ∧ val 4294967296 rs < (q + 1) * val 4294967296 ys ∧ Below w.heap.size w w' := by
  have tops := tops_of ha.words hb.words lr ly (by omega)
  have ca2 := ha.cell x rfl (m + 2) (by omega)
  have ca1 := ha.cell x rfl (m + 1) (by omega)
  have ca0 := ha.cell x rfl m (by omega)
  have cb1 := hb.cell y rfl (m + 1) (by omega)
  have cb0 := hb.cell y rfl m (by omega)
  obtain ⟨r2, e2, r20, r21⟩ := ha.words.get (by decide) (m + 2)
  obtain ⟨r1, e1, r10, r11⟩ := ha.words.get (by decide) (m + 1)
  obtain ⟨r0, e0, r00, r01⟩ := ha.words.get (by decide) m
  obtain ⟨d1, f1, d10, d11⟩ := hb.words.get (by decide) (m + 1)
  obtain ⟨d0, f0, d00, d01⟩ := hb.words.get (by decide) m
  rw [e2, add_one_off] at ca2
  rw [e1, add_one_off] at ca1
  rw [e0] at ca0
  rw [f1, add_one_off] at cb1
  rw [f0] at cb0
  rw [e2, e1, e0, f1, f0] at tops
  rw [f1] at hd
  have hhi := tops.high rfl r10 hR
  have hst := tops.start (by omega)
  replace tops : Hid _ := tops
  replace hst : Hid _ := hst
  replace hR : Hid _ := hR
  clear e2 e1 e0 f1 f0 lr ly
  have hor := bits_or64 r2 r1 r20 r21 r10 r11
  have hm0 : (0 : Int) ≤ (m : Int) := by omega
  go_enter Tryz.func294, Tryz.ntmps294
  go_wp2
  go_quiet (fail)
  have b2 : Below w.heap.size w (w.drewN nq) := below_drewN (Below.refl _ _) nq
  generalize w.drewN nq = w2 at *
  replace ca0 := keep_cell b2 ca0
  replace cb1 := keep_cell b2 cb1
  replace cb0 := keep_cell b2 cb0
  clear ca2 ca1 nq
  go_wp2
  go_quiet (fail)
  have b3 : Below w.heap.size w (w2.drewN nq) := below_drewN b2 nq
  have ca0' := keep_cell (below_drewN (Below.refl w2.heap.size w2) nq) ca0
  generalize w2.drewN nq = w3 at *
  clear ca0 cb1 cb0 nq b2
  have hd10 : d1 ≠ 0 := by omega
  go_wp2
  go_quiet (fail)
  have b4 : Below w.heap.size w (w3.drewN nq) := below_drewN b3 nq
  have ca0 := keep_cell (below_drewN (Below.refl w3.heap.size w3) nq) ca0'
  generalize w3.drewN nq = w4 at *
  clear ca0' nq b3
  have hT1 : (r2 * 4294967296 + r1) / d1 ≤ 4294967297 := by
    have := Int.ediv_lt_of_lt_mul (a := r2 * 4294967296 + r1) (b := 4294967298) (show 0 < d1 by omega) (by
      have e2 := Int.mul_le_mul_of_nonneg_right hhi (show (0 : Int) ≤ 4294967296 by decide)
      have e3 : (4294967298 : Int) * d1 = d1 * 4294967296 + 2 * d1 := by omega
      omega)
    omega
  have hT0 : 0 ≤ (r2 * 4294967296 + r1) / d1 := Int.ediv_nonneg (by omega) (by omega)
  have hT2 := Int.emod_nonneg (r2 * 4294967296 + r1) (b := d1) (by omega)
  have hT3 := Int.emod_lt_of_pos (r2 * 4294967296 + r1) (show 0 < d1 by omega)
  have hT4 : (r2 * 4294967296 + r1) / d1 * d1 + (r2 * 4294967296 + r1) % d1 = r2 * 4294967296 + r1 := by rw [Int.mul_comm]; exact Int.mul_ediv_add_emod _ _
  go_wp2
  go_loop [9, 10] (fun g l => ∃ gg ll : Int, g = .int .u64 gg ∧ l = .int .u64 ll ∧ 0 ≤ gg ∧ gg ≤ 4294967297 ∧ 0 ≤ ll ∧ ll < 4294967296 ∧ Hid (gg * d1 + ll = r2 * 4294967296 + r1) ∧ Hid (val 4294967296 rs < (gg + 1) * val 4294967296 ys)) (fun g _ => (intOf g).toNat)
  case atStart => exact ⟨_, _, rfl, rfl, hT0, hT1, hT2, by omega, hT4, hst⟩
  case round =>
    obtain ⟨gg, ll, rfl, rfl, hg0, hg9, hl0, hl9, HE, HG⟩ := hrel
    clear hT0 hT1 hT2 hT3 hT4
    replace HE := HE.out
    have hor2 := bits_or64 ll r0 hl0 hl9 r00 r01
    by_cases hgb : 4294967296 ≤ gg
    · have hq : (gg / 4294967296 != 0) = true := by rw [bne_iff_ne]; omega
      have HB : val 4294967296 rs < gg * val 4294967296 ys := by
        have e := hR.out
        have e2 := Int.mul_le_mul_of_nonneg_right hgb (val_nonneg (B := 4294967296) (by decide) hb.words)
        rw [Int.mul_comm] at e
        omega
      replace HB : Hid _ := HB
      · have hg1 : 1 ≤ gg := by omega
        have HN : Hid (Hid (val 4294967296 rs < (gg - 1 + 1) * val 4294967296 ys)) := by show _ < _; rw [Int.sub_add_cancel]; exact HB.out
        have hsub : (gg - 1) * d1 = gg * d1 - d1 := by rw [Int.sub_mul, Int.one_mul]
        by_cases hlb : 4294967296 ≤ ll + d1
        · have hgB : gg - 1 < 4294967296 := by
            by_cases hh : gg - 1 < 4294967296
            · exact hh
            · have e1 := Int.mul_le_mul_of_nonneg_right (show (4294967296 : Int) ≤ gg - 1 by omega) (show (0 : Int) ≤ d1 by omega)
              have e2 := Int.mul_le_mul_of_nonneg_right hhi (show (0 : Int) ≤ 4294967296 by decide)
              omega
          have HS : Hid (Hid ((gg - 1) * val 4294967296 ys < val 4294967296 rs + val 4294967296 ys)) := by
            refine tops.out.stop (g := gg - 1) (left := ll + d1) (by omega) hgB (by omega) ?_
            have e1 := Int.mul_le_mul_of_nonneg_right (show gg - 1 ≤ 4294967295 by omega) d00
            have e3 := Int.mul_le_mul_of_nonneg_right hlb (show (0 : Int) ≤ 4294967296 by decide)
            omega
          have hq2 : ((ll + d1) / 4294967296 != 0) = true := by rw [bne_iff_ne]; omega
          clear hsub HG
          replace HE : Hid _ := HE
          go_wp2
          go_ret
          exact ⟨gg - 1, rfl, by omega, hgB, HS, HN, b4⟩
        · have hq2 : ((ll + d1) / 4294967296 != 0) = false := by rw [bne_eq_false_iff_eq]; omega
          have HE' : (gg - 1) * d1 + (ll + d1) = r2 * 4294967296 + r1 := by omega
          clear hsub HG
          replace HE : Hid _ := HE
          replace HE' : Hid _ := HE'
          go_wp2
          go_round
          case rel => exact ⟨gg - 1, ll + d1, rfl, rfl, by omega, by omega, by omega, by omega, HE', HN⟩
          case measure => simp [intOf]; omega
    · have hq : (gg / 4294967296 != 0) = false := by rw [bne_eq_false_iff_eq]; omega
      have hp0 := Int.mul_nonneg hg0 d00
      have hp1 : gg * d0 ≤ 18446744065119617025 := by
        have e1 := Int.mul_le_mul_of_nonneg_right (show gg ≤ 4294967295 by omega) d00
        omega
      by_cases hc : ll * 4294967296 + r0 < gg * d0
      · have HB : val 4294967296 rs < gg * val 4294967296 ys := tops.out.down hg0 HE hc
        replace HB : Hid _ := HB
        have hgne : gg ≠ 0 := by
          intro e
          subst e
          simp at hc
          omega
        have hc' : gg * d0 > ll * 4294967296 + r0 := hc
        · have hg1 : 1 ≤ gg := by omega
          have HN : Hid (Hid (val 4294967296 rs < (gg - 1 + 1) * val 4294967296 ys)) := by show _ < _; rw [Int.sub_add_cancel]; exact HB.out
          have hsub : (gg - 1) * d1 = gg * d1 - d1 := by rw [Int.sub_mul, Int.one_mul]
          by_cases hlb : 4294967296 ≤ ll + d1
          · have hgB : gg - 1 < 4294967296 := by
              by_cases hh : gg - 1 < 4294967296
              · exact hh
              · have e1 := Int.mul_le_mul_of_nonneg_right (show (4294967296 : Int) ≤ gg - 1 by omega) (show (0 : Int) ≤ d1 by omega)
                have e2 := Int.mul_le_mul_of_nonneg_right hhi (show (0 : Int) ≤ 4294967296 by decide)
                omega
            have HS : Hid (Hid ((gg - 1) * val 4294967296 ys < val 4294967296 rs + val 4294967296 ys)) := by
              refine tops.out.stop (g := gg - 1) (left := ll + d1) (by omega) hgB (by omega) ?_
              have e1 := Int.mul_le_mul_of_nonneg_right (show gg - 1 ≤ 4294967295 by omega) d00
              have e3 := Int.mul_le_mul_of_nonneg_right hlb (show (0 : Int) ≤ 4294967296 by decide)
              omega
            have hq2 : ((ll + d1) / 4294967296 != 0) = true := by rw [bne_iff_ne]; omega
            clear hsub HG
            replace HE : Hid _ := HE
            go_wp2
            go_ret
            exact ⟨gg - 1, rfl, by omega, hgB, HS, HN, b4⟩
          · have hq2 : ((ll + d1) / 4294967296 != 0) = false := by rw [bne_eq_false_iff_eq]; omega
            have HE' : (gg - 1) * d1 + (ll + d1) = r2 * 4294967296 + r1 := by omega
            clear hsub HG
            replace HE : Hid _ := HE
            replace HE' : Hid _ := HE'
            go_wp2
            go_round
            case rel => exact ⟨gg - 1, ll + d1, rfl, rfl, by omega, by omega, by omega, by omega, HE', HN⟩
            case measure => simp [intOf]; omega
      · have hc' : ¬ gg * d0 > ll * 4294967296 + r0 := hc
        have HS : Hid (Hid (gg * val 4294967296 ys < val 4294967296 rs + val 4294967296 ys)) := tops.out.stop hg0 (by omega) HE (by omega)
        have hm : gg % 4294967296 = gg := by omega
        replace HE : Hid _ := HE
        go_wp2
        go_ret
        exact ⟨gg, rfl, hg0, by omega, HS, HG, b4⟩
end Go.Proofs.YtclokcoimdjaeaaGreatDoor
namespace Go.Proofs.YtclokcoimdjaeaaGreatDoor
open Go.RowKit
attribute [local go_sem ↓] Go.wp_at_zero Go.wp_at_succ
theorem grown_below' {w0 w w' : World} {g : Nat} (hw : Below w0.heap.size w0 w) (h : w.grownBy w' (some g)) (hg : w0.heap.size ≤ g) : Below w0.heap.size w0 w' := hw.trans (grown_below h hg hw.size)
theorem bor_fact (z t b : Int) (hz0 : 0 ≤ z) (hz1 : z < 4294967296) (ht0 : 0 ≤ t) (ht1 : t < 4294967296) (hb0 : 0 ≤ b) (hb1 : b ≤ 1) : (z - t - b) % 4294967296 = z - t - b + 4294967296 * bor z t b ∧ 0 ≤ bor z t b ∧ bor z t b ≤ 1 := by
  unfold bor
  split <;> omega
set_option maxHeartbeats 2000000 in
theorem subtractScaled_any (w0 : World) (g o n capT capB cap : Nat) (zs ys : List Int) (y : Option Addr) (s : Int) (w : World) (hb : Row w0 .u32 4294967296 y capB ys) (hw : Below w0.heap.size w0 w) (hg : w0.heap.size ≤ g)
    (hz : Blk w g .u32 139 cap zs) (hzw : Words 4294967296 zs) (hn : ys.length = n) (ho : o + n + 1 ≤ zs.length) (hl : zs.length ≤ 4000000) (hs0 : 0 ≤ s) (hs1 : s < 4294967296) :
    Calls Tryz.prog 295 #[.slice (some ⟨g, o, none⟩) (n + 1) capT, .slice y n capB, .int .u32 s] w fun e w' => ∃ (b : Int) (zs' : List Int), e = .returned (.bool (b != 0)) ∧ 0 ≤ b ∧ b ≤ 1 ∧ Blk w' g .u32 139 cap zs' ∧ zs'.length = zs.length ∧ Words 4294967296 zs' ∧ (∀ j, j < o ∨ o + n < j → zs'[j]?.getD 0 = zs[j]?.getD 0) ∧ val 4294967296 ((zs'.drop o).take (n + 1)) - b * 4294967296 ^ (n + 1) = val 4294967296 ((zs.drop o).take (n + 1)) - s * val 4294967296 ys ∧ w.grownBy w' (some g) := by
  go_enter Tryz.func295, Tryz.ntmps295
  go_wp2
  go_loopw [7, 8, 9, 10, 11, 15] (fun cy bo u9 u10 u11 i wr => ∃ (k : Nat) (cc b : Int) (ss : List Int), k ≤ n ∧ i = .int .i64 k ∧ cy = .int .u64 cc ∧ bo = .int .u32 b ∧ 0 ≤ cc ∧ cc < 4294967296 ∧ 0 ≤ b ∧ b ≤ 1 ∧ Blk wr g .u32 139 cap ss ∧ Hid (ss.length = zs.length) ∧ Words 4294967296 ss ∧ Hid (∀ j, j < o ∨ o + k ≤ j → ss[j]?.getD 0 = zs[j]?.getD 0) ∧ Hid (val 4294967296 ((ss.drop o).take k) - (cc + b) * 4294967296 ^ k = val 4294967296 ((zs.drop o).take k) - s * val 4294967296 (ys.take k)) ∧ w.grownBy wr (some g)) (fun _ _ _ _ _ i _ => n - (intOf i).toNat)
  case atStart => exact ⟨0, 0, 0, zs, Nat.zero_le _, rfl, rfl, rfl, by omega, by omega, by omega, by omega, hz, rfl, hzw, fun _ _ => rfl, by simp [val, Hid], grown_refl _ _⟩
  case round =>
    obtain ⟨k, cc, b, ss, hk, rfl, rfl, rfl, hc0, hc1, hb0, hb1, hblk, hsl, hsw, HE, HV, hgr⟩ := hrel
    have hbel := grown_below' hw hgr hg
    have hsz := hsl.out
    by_cases hlt : k < n
    · obtain ⟨y, rfl⟩ := hb.some_of (i := k) (by omega)
      obtain ⟨p, hp, hp0, hp1⟩ := hb.words.get (by decide) k
      obtain ⟨q, hq, hq0, hq1⟩ := hsw.get (by decide) (o + k)
      have hca := (hb.next hbel).cell y rfl k (by omega)
      have hcs := hblk.cell (o + k) (by omega)
      have hfr := hblk.frozen (o + k)
      have hzq : (zs.drop o)[k]?.getD 0 = q := by rw [drop_at, ← HE.out (o + k) (.inr (Nat.le_refl _))]; exact hq
      have hm := mul_word hp0 hp1 hs0 hs1
      have hbf := bor_fact q ((p * s + cc) % 4294967296) b hq0 hq1 (by omega) (by omega) hb0 hb1
      have HS : Hid (Hid (val 4294967296 (((ss.set (o + k) ((q - (p * s + cc) % 4294967296 - b) % 4294967296)).drop o).take (k + 1)) - ((p * s + cc) / 4294967296 + bor q ((p * s + cc) % 4294967296) b) * 4294967296 ^ (k + 1) = val 4294967296 ((zs.drop o).take (k + 1)) - s * val 4294967296 (ys.take (k + 1)))) := by
        show _ = _
        rw [drop_set]
        exact subsc_step (by rw [List.length_drop]; omega) hp hzq (by rw [hbf.1]) rfl HV.out
      rw [hp] at hca
      rw [hq] at hcs
      have hbb := hbf.2
      clear hp hq HV hzq hbf
      generalize hbo : bor q ((p * s + cc) % 4294967296) b = b' at *
      replace hbo : Hid _ := hbo
      replace hsz : Hid _ := hsz
      go_wp2_with (go_at_call 278; refine (sub32 _ _ _ _ (by omega) (by omega) (by omega) (by omega) (by omega) (by omega)).mono ?_; rintro e w' ⟨rfl, rfl⟩; rw [hbo.out])
      go_roundw
      case rel => exact ⟨k + 1, _, _, _, by omega, by go_num, rfl, rfl, by omega, by omega, hbb.1, hbb.2, hblk.set (o + k) _, by show _ = _; rw [List.length_set]; exact hsl.out, hsw.set (o + k) (by omega), fun j hj => by rw [List.getElem?_set_ne (by omega)]; exact HE.out j (by omega), HS, grown_set hgr _ _⟩
      case measure => simp [intOf]; omega
    · obtain rfl : k = n := by omega
      obtain ⟨q, hq, hq0, hq1⟩ := hsw.get (by decide) (o + k)
      have hcs := hblk.cell (o + k) (by omega)
      have hfr := hblk.frozen (o + k)
      have hzq : (zs.drop o)[k]?.getD 0 = q := by rw [drop_at, ← HE.out (o + k) (.inr (Nat.le_refl _))]; exact hq
      have hcm : cc % 4294967296 = cc := by omega
      have hbf := bor_fact q cc b hq0 hq1 hc0 hc1 hb0 hb1
      have HS : Hid (val 4294967296 (((ss.set (o + k) ((q - cc - b) % 4294967296)).drop o).take (k + 1)) - bor q cc b * 4294967296 ^ (k + 1) = val 4294967296 ((zs.drop o).take (k + 1)) - s * val 4294967296 ys) := by
        have e := subsc_step (s := s) (c := cc) (b := b) (c' := 0) (b' := bor q cc b) (y := 0) (z := q) (d := (q - cc - b) % 4294967296) (show k < (ss.drop o).length by rw [List.length_drop]; omega) (at_out (zs := ys) (by omega)) hzq (by rw [hbf.1]; simp; omega) (by simp; omega) HV.out
        rw [Int.zero_add, take_all (zs := ys) (by omega)] at e
        show _ = _
        rw [drop_set]
        exact e
      rw [hq] at hcs
      have hbb := hbf.2
      clear hq HV hzq hbf
      generalize hbo : bor q cc b = b' at *
      replace hbo : Hid _ := hbo
      replace hsz : Hid _ := hsz
      go_wp2_with (go_at_call 278; refine (sub32 _ _ _ _ (by omega) (by omega) (by omega) (by omega) (by omega) (by omega)).mono ?_; rintro e w' ⟨rfl, rfl⟩; rw [hbo.out])
      go_ret
      exact ⟨b', _, rfl, hbb.1, hbb.2, hblk.set (o + k) _, by rw [List.length_set]; exact hsl.out, hsw.set (o + k) (by omega), fun j hj => by rw [List.getElem?_set_ne (by omega)]; exact HE.out j (by omega), HS.out, grown_set hgr _ _⟩
set_option maxHeartbeats 2000000 in
theorem addBack_any (w0 : World) (g o n capT capB cap : Nat) (zs ys : List Int) (y : Option Addr) (w : World) (hb : Row w0 .u32 4294967296 y capB ys) (hw : Below w0.heap.size w0 w) (hg : w0.heap.size ≤ g)
    (hz : Blk w g .u32 139 cap zs) (hzw : Words 4294967296 zs) (hn : ys.length = n) (ho : o + n + 1 ≤ zs.length) (hl : zs.length ≤ 4000000) :
    Calls Tryz.prog 296 #[.slice (some ⟨g, o, none⟩) (n + 1) capT, .slice y n capB] w fun e w' => ∃ (v : Value) (c : Int) (zs' : List Int), e = .returned v ∧ 0 ≤ c ∧ c ≤ 1 ∧ Blk w' g .u32 139 cap zs' ∧ zs'.length = zs.length ∧ Words 4294967296 zs' ∧ (∀ j, j < o ∨ o + n < j → zs'[j]?.getD 0 = zs[j]?.getD 0) ∧ val 4294967296 ((zs'.drop o).take (n + 1)) + c * 4294967296 ^ (n + 1) = val 4294967296 ((zs.drop o).take (n + 1)) + val 4294967296 ys ∧ w.grownBy w' (some g) := by
  go_enter Tryz.func296, Tryz.ntmps296
  go_wp2
  go_loopw [4, 5, 6, 9] (fun cy u5 u6 i wr => ∃ (k : Nat) (cc : Int) (ss : List Int), k ≤ n ∧ i = .int .i64 k ∧ cy = .int .u32 cc ∧ 0 ≤ cc ∧ cc ≤ 1 ∧ Blk wr g .u32 139 cap ss ∧ Hid (ss.length = zs.length) ∧ Words 4294967296 ss ∧ Hid (∀ j, j < o ∨ o + k ≤ j → ss[j]?.getD 0 = zs[j]?.getD 0) ∧ Hid (val 4294967296 ((ss.drop o).take k) + cc * 4294967296 ^ k = val 4294967296 ((zs.drop o).take k) + val 4294967296 (ys.take k)) ∧ w.grownBy wr (some g)) (fun _ _ _ i _ => n - (intOf i).toNat)
  case atStart => exact ⟨0, 0, zs, Nat.zero_le _, rfl, rfl, by omega, by omega, hz, rfl, hzw, fun _ _ => rfl, by simp [val, Hid], grown_refl _ _⟩
  case round =>
    obtain ⟨k, cc, ss, hk, rfl, rfl, hc0, hc1, hblk, hsl, hsw, HE, HV, hgr⟩ := hrel
    have hbel := grown_below' hw hgr hg
    have hsz := hsl.out
    by_cases hlt : k < n
    · obtain ⟨y, rfl⟩ := hb.some_of (i := k) (by omega)
      obtain ⟨p, hp, hp0, hp1⟩ := hb.words.get (by decide) k
      obtain ⟨q, hq, hq0, hq1⟩ := hsw.get (by decide) (o + k)
      have hca := (hb.next hbel).cell y rfl k (by omega)
      have hcs := hblk.cell (o + k) (by omega)
      have hfr := hblk.frozen (o + k)
      have hzq : (zs.drop o)[k]?.getD 0 = q := by rw [drop_at, ← HE.out (o + k) (.inr (Nat.le_refl _))]; exact hq
      have HS : Hid (Hid (val 4294967296 (((ss.set (o + k) ((q + p + cc) % 4294967296)).drop o).take (k + 1)) + ((q + p + cc) / 4294967296) * 4294967296 ^ (k + 1) = val 4294967296 ((zs.drop o).take (k + 1)) + val 4294967296 (ys.take (k + 1)))) := by
        show _ = _
        rw [drop_set]
        exact add_step (by decide) (by rw [List.length_drop]; omega) hzq hp HV.out
      rw [hp] at hca
      rw [hq] at hcs
      clear hp hq HV hzq
      replace hsz : Hid _ := hsz
      go_wp2_with (go_at_call 264; refine (add32 _ _ _ _ (by omega) (by omega) (by omega) (by omega) (by omega) (by omega)).mono ?_; rintro e w' ⟨rfl, rfl⟩)
      go_roundw
      case rel => exact ⟨k + 1, _, _, by omega, by go_num, rfl, by omega, by omega, hblk.set (o + k) _, by show _ = _; rw [List.length_set]; exact hsl.out, hsw.set (o + k) (by omega), fun j hj => by rw [List.getElem?_set_ne (by omega)]; exact HE.out j (by omega), HS, grown_set hgr _ _⟩
      case measure => simp [intOf]; omega
    · obtain rfl : k = n := by omega
      obtain ⟨q, hq, hq0, hq1⟩ := hsw.get (by decide) (o + k)
      have hcs := hblk.cell (o + k) (by omega)
      have hfr := hblk.frozen (o + k)
      have hzq : (zs.drop o)[k]?.getD 0 = q := by rw [drop_at, ← HE.out (o + k) (.inr (Nat.le_refl _))]; exact hq
      have HS : Hid (val 4294967296 (((ss.set (o + k) ((q + cc) % 4294967296)).drop o).take (k + 1)) + ((q + cc) / 4294967296) * 4294967296 ^ (k + 1) = val 4294967296 ((zs.drop o).take (k + 1)) + val 4294967296 ys) := by
        have e := add_step (B := 4294967296) (ss := ss.drop o) (c := cc) (p := q) (q := 0) (by decide) (show k < (ss.drop o).length by rw [List.length_drop]; omega) hzq (at_out (zs := ys) (by omega)) HV.out
        rw [Int.add_zero, take_all (zs := ys) (n := k + 1) (by omega)] at e
        show _ = _
        rw [drop_set]
        exact e
      rw [hq] at hcs
      clear hq HV hzq
      replace hsz : Hid _ := hsz
      go_wp2
      exact bodyPost_end (v := .tuple #[]) (by simp [results, Tryz.results296, go_sem]) rfl ⟨_, (q + cc) / 4294967296, _, rfl, by omega, by omega, hblk.set (o + k) _, by rw [List.length_set]; exact hsl.out, hsw.set (o + k) (by omega), fun j hj => by rw [List.getElem?_set_ne (by omega)]; exact HE.out j (by omega), HS.out, grown_set hgr _ _⟩
end Go.Proofs.YtclokcoimdjaeaaGreatDoor
namespace Go.Proofs.YtclokcoimdjaeaaGreatDoor
open Go.RowKit
attribute [local go_sem ↓] Go.wp_at_zero Go.wp_at_succ
theorem drop_same {xs ys : List Int} {k : Nat} (hl : xs.length = ys.length) (h : ∀ j, k ≤ j → xs[j]?.getD 0 = ys[j]?.getD 0) : xs.drop k = ys.drop k := by
  apply List.ext_getElem?
  intro i
  rw [List.getElem?_drop, List.getElem?_drop]
  by_cases hi : k + i < xs.length
  · have := h (k + i) (by omega)
    rw [List.getElem?_eq_getElem hi, List.getElem?_eq_getElem (by omega)] at this ⊢
    simpa using this
  · rw [List.getElem?_eq_none (by omega), List.getElem?_eq_none (by omega)]
/-- The part of a row from place o on, where all beyond n + 1 places is nought. -/
theorem tail_part {zs : List Int} {o n : Nat} (hw : Words 4294967296 zs) (hs : val 4294967296 (zs.drop o) < 4294967296 ^ (n + 1)) (ho : o + n + 1 ≤ zs.length) : val 4294967296 ((zs.drop o).take (n + 1)) = val 4294967296 (zs.drop o) ∧ val 4294967296 (zs.drop (o + (n + 1))) = 0 := by
  have e := val_take_small (by decide) (hw.drop o) hs
  refine ⟨e, ?_⟩
  have e2 := val_split 4294967296 (zs.drop o) (n + 1) (by rw [List.length_drop]; omega)
  rw [List.drop_drop] at e2
  have hp := pow_pos' (B := 4294967296) (by decide) (n + 1)
  have h0 : (4294967296 : Int) ^ (n + 1) * val 4294967296 (zs.drop (o + (n + 1))) = 0 := by omega
  rcases Int.mul_eq_zero.1 h0 with h | h
  · omega
  · exact h
theorem part_tail {zs : List Int} {o n : Nat} (ho : o + n + 1 ≤ zs.length) (h : val 4294967296 (zs.drop (o + (n + 1))) = 0) : val 4294967296 (zs.drop o) = val 4294967296 ((zs.drop o).take (n + 1)) := by
  have e2 := val_split 4294967296 (zs.drop o) (n + 1) (by rw [List.length_drop]; omega)
  rw [List.drop_drop, h] at e2
  omega
theorem Blk.part {w : World} {g cap o n capT : Nat} {zs : List Int} (h : Blk w g .u32 139 cap zs) (hw : Words 4294967296 zs) (ho : o + n ≤ zs.length) (hc : n ≤ capT) (hm : capT ≤ maxLen) : Row w .u32 4294967296 (some ⟨g, o, none⟩) capT ((zs.drop o).take n) := by
  have hl : ((zs.drop o).take n).length = n := by rw [List.length_take, List.length_drop]; omega
  refine ⟨by omega, hm, fun h => (by cases h), fun x hx i hi => ?_, (hw.drop o).take n⟩
  cases hx
  rw [addr_add, h.cell (o + i) (by omega), List.getElem?_take_of_lt (by omega), List.getElem?_drop]
set_option maxHeartbeats 2000000 in
theorem divideStep_any (w0 : World) (g o m capT capB cap : Nat) (zs ys : List Int) (y : Addr) (w : World) (hb : Row w0 .u32 4294967296 (some y) capB ys) (hw : Below w0.heap.size w0 w) (hg : w0.heap.size ≤ g)
    (hz : Blk w g .u32 139 cap zs) (hzw : Words 4294967296 zs) (hn : ys.length = m + 2) (ho : o + (m + 2) + 1 ≤ zs.length) (hl : zs.length ≤ 1000000) (hc : m + 2 + 1 ≤ capT) (hcm : capT ≤ maxLen) (hd : 2147483648 ≤ ys[m + 1]?.getD 0) (hsm : val 4294967296 (zs.drop (o + 1)) < val 4294967296 ys) :
    Calls Tryz.prog 281 #[.slice (some ⟨g, o, none⟩) (m + 2 + 1) capT, .slice (some y) (m + 2) capB] w fun e w' => ∃ (q : Int) (zs' : List Int), e = .returned (.int .u32 q) ∧ 0 ≤ q ∧ q < 4294967296 ∧ Blk w' g .u32 139 cap zs' ∧ zs'.length = zs.length ∧ Words 4294967296 zs' ∧ (∀ j, j < o → zs'[j]?.getD 0 = zs[j]?.getD 0) ∧ val 4294967296 (zs.drop o) = val 4294967296 ys * q + val 4294967296 (zs'.drop o) ∧ val 4294967296 (zs'.drop o) < val 4294967296 ys ∧ w.grownBy w' (some g) := by
  have hD := val_lt (B := 4294967296) (by decide) hb.words
  rw [hn] at hD
  have hD0 := val_nonneg (B := 4294967296) (by decide) hb.words
  have hR0 : val 4294967296 (zs.drop o) < val 4294967296 ys * 4294967296 := by
    rw [val_drop]
    have := (hzw.at (by decide) o)
    omega
  have hR1 : val 4294967296 (zs.drop o) < 4294967296 ^ (m + 2 + 1) := by rw [Int.pow_succ]; omega
  have hpart := tail_part hzw hR1 ho
  have hRow := hz.part (o := o) (n := m + 2 + 1) (capT := capT) hzw (by omega) hc hcm
  have hlen : ((zs.drop o).take (m + 2 + 1)).length = m + 2 + 1 := by rw [List.length_take, List.length_drop]; omega
  have kg := guessWord_any ⟨g, o, none⟩ y capT capB m _ ys w hRow (hb.next hw) hlen hn (by omega) hd (by rw [hpart.1]; exact hR0)
  rw [hpart.1] at kg
  replace kg : Hid _ := kg
  go_enter Tryz.func281, Tryz.ntmps281
  go_wp2_with fail
  refine Calls.mono kg.out ?_
  rintro e w1 ⟨q, rfl, hq0, hq1, hqa, hqb, hb1⟩
  clear kg
  have hw1 := hw.trans (hb1.mono hw.size)
  have ks := subtractScaled_any w0 g o (m + 2) capT capB cap zs ys (some y) q w1 hb hw1 hg (hz.next hb1) hzw hn ho (by omega) hq0 hq1
  rw [hpart.1] at ks
  replace ks : Hid _ := ks
  replace hqa : Hid _ := hqa
  replace hqb : Hid _ := hqb
  replace hpart : Hid _ := hpart
  replace hR0 : Hid _ := hR0
  replace hR1 : Hid _ := hR1
  replace hD : Hid _ := hD
  replace hsm : Hid _ := hsm
  replace hlen : Hid _ := hlen
  clear hRow
  have hg1 : w.grownBy w1 (some g) := ⟨hb1.os, hb1.tape, hb1.output, hb1.size, fun k hk _ => hb1.block k hk⟩
  go_wp2_with fail
  refine Calls.mono ks.out ?_
  rintro e w2 ⟨b, zs1, rfl, hb0, hbb1, hblk1, hl1, hw1', hsame1, hval1, hgr1⟩
  clear ks
  have hg2 : w.grownBy w2 (some g) := hg1.trans hgr1
  replace hl1 : Hid _ := hl1
  replace hval1 : Hid _ := hval1
  by_cases hbz : b = 0
  · have hbz' : (b != 0) = false := by simp [hbz]
    replace hbz : Hid _ := hbz
    go_wp2
    go_ret
    have ht : val 4294967296 (zs1.drop (o + (m + 2 + 1))) = 0 := by
      rw [drop_same hl1.out (fun j hj => hsame1 j (.inr (by omega)))]
      exact hpart.out.2
    have hv := part_tail (n := m + 2) (by rw [hl1.out]; exact ho) ht
    have e1 := hval1.out
    rw [hbz.out, ← hv] at e1
    have e2 := hqb.out
    rw [Int.add_mul, Int.one_mul] at e2
    refine ⟨q, zs1, rfl, hq0, hq1, hblk1, hl1.out, hw1', fun j hj => hsame1 j (.inl hj), ?_, ?_, hg2⟩
    · rw [Int.mul_comm]; omega
    · omega
  · have hbz' : (b != 0) = true := by simp [hbz]
    have hb1' : b = 1 := by omega
    replace hbz : Hid _ := hbz
    replace hb1' : Hid _ := hb1'
    have hqp : 1 ≤ q := by
      have e1 := hval1.out
      rw [hb1'.out] at e1
      by_cases h : 1 ≤ q
      · exact h
      · have e2 : q = 0 := by omega
        have e3 := val_lt (B := 4294967296) (by decide) ((hw1'.drop o).take (m + 2 + 1))
        have e5 := val_nonneg (B := 4294967296) (by decide) (hzw.drop o)
        have e4 : ((zs1.drop o).take (m + 2 + 1)).length = m + 2 + 1 := by rw [List.length_take, List.length_drop, hl1.out]; omega
        rw [e4] at e3
        rw [e2] at e1
        omega
    have ka := addBack_any w0 g o (m + 2) capT capB cap zs1 ys (some y) w2 hb (grown_below' hw1 hgr1 hg) hg hblk1 hw1' hn (by rw [hl1.out]; exact ho) (by rw [hl1.out]; omega)
    replace ka : Hid _ := ka
    go_wp2_with fail
    refine Calls.mono ka.out ?_
    rintro e w3 ⟨v, c, zs2, rfl, hc0, hc1, hblk2, hl2, hw2', hsame2, hval2, hgr2⟩
    clear ka
    replace hl2 : Hid _ := hl2
    replace hval2 : Hid _ := hval2
    go_wp2
    go_ret
    have hl3 := hl2.out.trans hl1.out
    have ht : val 4294967296 (zs2.drop (o + (m + 2 + 1))) = 0 := by
      rw [drop_same hl3 (fun j hj => (hsame2 j (.inr (by omega))).trans (hsame1 j (.inr (by omega))))]
      exact hpart.out.2
    have hv := part_tail (n := m + 2) (by rw [hl3]; exact ho) ht
    have e1 := hval1.out
    have e2 := hval2.out
    have e3 := hqa.out
    rw [hb1'.out, Int.one_mul] at e1
    have e6 := val_lt (B := 4294967296) (by decide) ((hw2'.drop o).take (m + 2 + 1))
    have e7 : ((zs2.drop o).take (m + 2 + 1)).length = m + 2 + 1 := by rw [List.length_take, List.length_drop, hl3]; omega
    rw [e7] at e6
    have e8 := val_nonneg (B := 4294967296) (by decide) ((hw2'.drop o).take (m + 2 + 1))
    have e9 := val_nonneg (B := 4294967296) (by decide) ((hw1'.drop o).take (m + 2 + 1))
    have hpp := pow_pos' (B := 4294967296) (by decide) (m + 2 + 1)
    have e10 := val_lt (B := 4294967296) (by decide) ((hw1'.drop o).take (m + 2 + 1))
    have e11 : ((zs1.drop o).take (m + 2 + 1)).length = m + 2 + 1 := by rw [List.length_take, List.length_drop, hl1.out]; omega
    rw [e11] at e10
    have hcc : c = 1 := by
      rcases (by omega : c = 0 ∨ c = 1) with h | h
      · rw [h] at e2; omega
      · exact h
    rw [hcc, Int.one_mul, ← hv] at e2
    refine ⟨q - 1, zs2, rfl, by omega, by omega, hblk2, hl3, hw2', fun j hj => (hsame2 j (.inl hj)).trans (hsame1 j (.inl hj)), ?_, ?_, hg2.trans hgr2⟩
    · rw [Int.mul_sub, Int.mul_one, Int.mul_comm]; omega
    · omega
end Go.Proofs.YtclokcoimdjaeaaGreatDoor
namespace Go.Proofs.YtclokcoimdjaeaaGreatDoor
open Go.RowKit
attribute [local go_sem ↓] Go.wp_at_zero Go.wp_at_succ
theorem lzAux_has : ∀ (f x : Nat), x < 2 ^ f → x < 2 ^ Lib.bitLenAux f x ∧ (Lib.bitLenAux f x = 0 ∨ 2 ^ (Lib.bitLenAux f x - 1) ≤ x)
  | 0, x, h => by simp at h; subst h; simp [Lib.bitLenAux]
  | f + 1, x, h => by
    by_cases hx : x = 0
    · subst hx; simp [Lib.bitLenAux]
    · have ih := lzAux_has f (x / 2) (by rw [Nat.pow_succ] at h; omega)
      simp only [Lib.bitLenAux, hx, if_false]
      generalize Lib.bitLenAux f (x / 2) = L at *
      refine ⟨?_, .inr ?_⟩
      · rw [Nat.pow_add]; omega
      · rcases ih.2 with e | e
        · subst e; simp; omega
        · by_cases hL : L = 0
          · subst hL; simp; omega
          · rw [show 1 + L - 1 = (L - 1) + 1 from by omega, Nat.pow_succ]; omega
/-- How far the highest word is from the top: c places. -/
theorem lz_has {t : Int} (h0 : 0 < t) (h1 : t < 4294967296) : ∃ c : Nat, (32 : Int) - (Lib.bitLen t.toNat : Int) = c ∧ c < 32 ∧ 2147483648 ≤ t * 2 ^ c ∧ (t + 1) * 2 ^ c ≤ 4294967296 := by
  have h := lzAux_has 64 t.toNat (by omega)
  have hle := Lib.bitLen_le t.toNat 32 (by decide) (by omega)
  change t.toNat < 2 ^ Lib.bitLen t.toNat ∧ (Lib.bitLen t.toNat = 0 ∨ 2 ^ (Lib.bitLen t.toNat - 1) ≤ t.toNat) at h
  generalize Lib.bitLen t.toNat = L at *
  have hL : L ≠ 0 := by
    intro e
    subst e
    simp at h
    omega
  have h2 : 2 ^ (L - 1) ≤ t.toNat := by rcases h.2 with e | e; exact absurd e hL; exact e
  have p1 : ((2 : Int) ^ (L - 1)) * 2 ^ (32 - L) = 2147483648 := by rw [← Int.pow_add, show L - 1 + (32 - L) = 31 from by omega]; rfl
  have p2 : ((2 : Int) ^ L) * 2 ^ (32 - L) = 4294967296 := by rw [← Int.pow_add, show L + (32 - L) = 32 from by omega]; rfl
  have c1 : ((2 ^ (L - 1) : Nat) : Int) = 2 ^ (L - 1) := by simp
  have c2 : ((2 ^ L : Nat) : Int) = 2 ^ L := by simp
  have hp := pow_pos' (B := 2) (by decide) (32 - L)
  refine ⟨32 - L, by omega, by omega, ?_, ?_⟩
  · rw [← p1]; exact mul_mono_r (by omega) (Int.le_of_lt hp)
  · rw [← p2]; exact mul_mono_r (by omega) (Int.le_of_lt hp)
theorem top_ne {zs : List Int} {m : Nat} (hn : nrm zs) (hl : zs.length = m + 1) : zs[m]?.getD 0 ≠ 0 := by
  have e := congrArg List.length (trimmed_of_nrm zs hn)
  rw [trimmed_len, hl] at e
  intro h0
  simp only [trimN, h0, if_true] at e
  have := trimN_le zs m
  omega
/-- The divisor moved so that its highest bit is set. -/
theorem long_norm {ys ds : List Int} {m c : Nat} (hy : Words 4294967296 ys) (hd : Words 4294967296 ds) (ly : ys.length = m + 2) (ld : ds.length = m + 2) (h1 : 2147483648 ≤ ys[m + 1]?.getD 0 * 2 ^ c) (hv : val 4294967296 ds = val 4294967296 ys * 2 ^ c) : 2147483648 ≤ ds[m + 1]?.getD 0 := by
  have e1 := val_take_succ 4294967296 ys (m + 1)
  have e2 := val_take_succ 4294967296 ds (m + 1)
  rw [take_all (by omega)] at e1 e2
  have h0 := val_nonneg (B := 4294967296) (by decide) (hy.take (m + 1))
  have h2 := val_lt (B := 4294967296) (by decide) (hd.take (m + 1))
  rw [List.length_take, Nat.min_eq_left (by omega)] at h2
  have hp := pow_pos' (B := 4294967296) (by decide) (m + 1)
  have hc := pow_pos' (B := 2) (by decide) c
  have h3 := Int.mul_nonneg h0 (Int.le_of_lt hc)
  have h4 := mul_mono_r h1 (Int.le_of_lt hp)
  have h5 : ys[m + 1]?.getD 0 * 4294967296 ^ (m + 1) * 2 ^ c = ys[m + 1]?.getD 0 * 2 ^ c * 4294967296 ^ (m + 1) := by rw [Int.mul_assoc, Int.mul_comm (4294967296 ^ (m + 1)), ← Int.mul_assoc]
  rw [e1, Int.add_mul, h5] at hv
  by_cases hh : 2147483648 ≤ ds[m + 1]?.getD 0
  · exact hh
  · have h6 := mul_mono_r (show ds[m + 1]?.getD 0 + 1 ≤ 2147483648 by omega) (Int.le_of_lt hp)
    rw [Int.add_mul, Int.one_mul] at h6
    omega
theorem long_fits {ys : List Int} {m c : Nat} (hy : Words 4294967296 ys) (ly : ys.length = m + 2) (h2 : (ys[m + 1]?.getD 0 + 1) * 2 ^ c ≤ 4294967296) : val 4294967296 ys * 2 ^ c < 4294967296 ^ (m + 2) := by
  have e1 := val_take_succ 4294967296 ys (m + 1)
  rw [take_all (by omega)] at e1
  have h0 := val_lt (B := 4294967296) (by decide) (hy.take (m + 1))
  rw [List.length_take, Nat.min_eq_left (by omega)] at h0
  have hp := pow_pos' (B := 4294967296) (by decide) (m + 1)
  have hc := pow_pos' (B := 2) (by decide) c
  have h3 : val 4294967296 ys + 1 ≤ (ys[m + 1]?.getD 0 + 1) * 4294967296 ^ (m + 1) := by rw [Int.add_mul]; omega
  have h4 := mul_mono_r h3 (Int.le_of_lt hc)
  have h5 : (ys[m + 1]?.getD 0 + 1) * 4294967296 ^ (m + 1) * 2 ^ c = (ys[m + 1]?.getD 0 + 1) * 2 ^ c * 4294967296 ^ (m + 1) := by rw [Int.mul_assoc, Int.mul_comm (4294967296 ^ (m + 1)), ← Int.mul_assoc]
  have h6 := mul_mono_r h2 (Int.le_of_lt hp)
  have h7 : (4294967296 : Int) ^ (m + 2) = 4294967296 * 4294967296 ^ (m + 1) := by rw [Int.pow_succ, Int.mul_comm]
  rw [h5, Int.add_mul, Int.one_mul] at h4
  omega
theorem long_room {xs : List Int} {c : Nat} (hx : Words 4294967296 xs) (hc : c < 32) : val 4294967296 xs * 2 ^ c < 4294967296 ^ (xs.length + 1) := by
  have h0 := val_lt (B := 4294967296) (by decide) hx
  have hv := val_nonneg (B := 4294967296) (by decide) hx
  have hc1 := pow_pos' (B := 2) (by decide) c
  have hc2 : (2 : Int) ^ c ≤ 2147483648 := pow_mono (B := 2) (by decide) (m := c) (n := 31) (by omega)
  have h1 := mul_mono_l hc2 hv
  rw [Int.pow_succ]
  omega
/-- The highest words of what is divided are below the divisor. -/
theorem long_start {us ds : List Int} {V : Int} {m c la : Nat} (hu : Words 4294967296 us) (hd : Words 4294967296 ds) (ld : ds.length = m + 2) (lu : us.length = la + 1) (hla : m + 2 ≤ la) (hc : c < 32) (hV0 : 0 ≤ V) (hV1 : V < 4294967296 ^ la) (hv : val 4294967296 us = V * 2 ^ c) (ht : 2147483648 ≤ ds[m + 1]?.getD 0) : val 4294967296 (us.drop (la - (m + 2) + 1)) < val 4294967296 ds := by
  have e := val_split 4294967296 us (la - (m + 2) + 1) (by omega)
  have h0 := val_nonneg (B := 4294967296) (by decide) (hu.take (la - (m + 2) + 1))
  have e2 := val_take_succ 4294967296 ds (m + 1)
  rw [take_all (by omega)] at e2
  have h1 := val_nonneg (B := 4294967296) (by decide) (hd.take (m + 1))
  have hp := pow_pos' (B := 4294967296) (by decide) (m + 1)
  have hq := pow_pos' (B := 4294967296) (by decide) (la - (m + 2) + 1)
  have h2 := mul_mono_r ht (Int.le_of_lt hp)
  have hc1 := pow_pos' (B := 2) (by decide) c
  have hc2 : (2 : Int) ^ c ≤ 2147483648 := pow_mono (B := 2) (by decide) (m := c) (n := 31) (by omega)
  have h3 : V * 2 ^ c < 4294967296 ^ la * 2147483648 := by
    have a1 := mul_mono_l hc2 hV0
    have a2 := Int.mul_lt_mul_of_pos_right hV1 (show (0 : Int) < 2147483648 by decide)
    omega
  have h4 : (4294967296 : Int) ^ la = 4294967296 ^ (la - (m + 2) + 1) * 4294967296 ^ (m + 1) := by rw [← Int.pow_add]; congr 1; omega
  by_cases hh : val 4294967296 (us.drop (la - (m + 2) + 1)) < val 4294967296 ds
  · exact hh
  · exfalso
    have h5 := mul_mono_l (show 2147483648 * 4294967296 ^ (m + 1) ≤ val 4294967296 (us.drop (la - (m + 2) + 1)) by omega) (Int.le_of_lt hq)
    rw [h4, Int.mul_assoc, Int.mul_comm (4294967296 ^ (m + 1)) 2147483648] at h3
    omega
theorem zeros_start (us : List Int) (D : Int) (n : Nat) : val 4294967296 (us.drop (n + 1)) = D * val 4294967296 ((zeros (n + 1)).drop (n + 1)) + val 4294967296 (us.drop (n + 1)) := by
  have e : (zeros (n + 1)).drop (n + 1) = [] := List.drop_eq_nil_of_le (by rw [zeros_len]; omega)
  rw [e]
  simp [val]
theorem long_step {B D : Int} {us ss ss' qs : List Int} {k : Nat} {q : Int} (hk : k < qs.length) (hu : ss[k]?.getD 0 = us[k]?.getD 0) (h : val B (us.drop (k + 1)) = D * val B (qs.drop (k + 1)) + val B (ss.drop (k + 1))) (hq : val B (ss.drop k) = D * q + val B (ss'.drop k)) :
    val B (us.drop k) = D * val B ((qs.set k q).drop k) + val B (ss'.drop k) := by
  rw [val_drop B us k, ← hu, val_set_drop _ _ _ _ hk, h, Int.mul_add D, ← Int.mul_assoc D B, Int.mul_comm D B, Int.mul_assoc B D, Int.mul_add B]
  rw [val_drop B ss k] at hq
  omega
/-- Back from the moved numbers. -/
theorem long_end {X Y Q S f : Int} (hf : 0 < f) (h : X * f = Y * f * Q + S) (hS : S < Y * f) (_hS0 : 0 ≤ S) : X = Y * Q + S / f ∧ S / f < Y := by
  have e : S = (X - Y * Q) * f := by
    rw [Int.sub_mul]
    have : Y * f * Q = Y * Q * f := by rw [Int.mul_assoc, Int.mul_comm f Q, ← Int.mul_assoc]
    omega
  have e2 : S / f = X - Y * Q := by rw [e, Int.mul_ediv_cancel _ (by omega)]
  refine ⟨by omega, Int.ediv_lt_of_lt_mul hf hS⟩
set_option maxHeartbeats 4000000 in
set_option maxRecDepth 20000 in
theorem long_said {xs ys : List Int} (nx : nrm xs) (ny : nrm ys) (wx : Words 4294967296 xs) (wy : Words 4294967296 ys) (hly : 2 ≤ ys.length) (hlx : xs.length ≤ 900000) (hv : val 4294967296 ys ≤ val 4294967296 xs) : LongSaid xs ys := by
  intro x y ca cb w ha hb
  have hll := len_le (by decide) wx wy ny hv
  obtain ⟨m, hm⟩ : ∃ m, ys.length = m + 2 := ⟨ys.length - 2, by omega⟩
  obtain ⟨ya, rfl⟩ := hb.some_of (i := 0) (by omega)
  have htop := top_ne (m := m + 1) ny hm
  obtain ⟨t, ht, ht0, ht1⟩ := wy.get (by decide) (m + 1)
  rw [ht] at htop
  obtain ⟨c, hc, hc32, hca, hcb⟩ := lz_has (t := t) (by omega) ht1
  have hcell := hb.cell ya rfl (m + 1) (by omega)
  rw [ht, add_one_off] at hcell
  have kz := lz32 t w (by omega) (by omega)
  rw [hc] at kz
  rw [← ht] at hca hcb
  have k1 := shiftLeft_any (some ya) cb ys c (m + 2) w hb (by omega) hc32 (.inl hm.symm) (long_fits wy hm hcb)
  rw [hm, show ((m + 2 : Nat) : Int) = (m : Int) + 2 from by omega] at k1
  rw [hm]
  replace k1 : Hid _ := k1
  replace kz : Hid _ := kz
  replace hca : Hid _ := hca
  replace hcb : Hid _ := hcb
  replace hv : Hid _ := hv
  replace ht : Hid _ := ht
  replace hc : Hid _ := hc
  replace nx : Hid _ := nx
  rw [hm] at hll hly
  replace hm : Hid _ := hm
  have hxr : Hid _ := long_room (c := c) wx hc32
  go_enter Tryz.func263, Tryz.ntmps263
  go_wp2_with (first | (go_at_call 279; refine Calls.mono kz.out ?_; rintro e w1 ⟨rfl, hw1⟩; rw [hw1]; clear hw1 w1))
  refine Calls.mono k1.out ?_
  rintro e w1 ⟨ds, rfl, hdb, hdl, hdw, hdv, hb1⟩
  rw [hdl] at hdb ⊢
  have hdn := long_norm wy hdw hm.out hdl hca.out hdv
  have hdr : Row w1 .u32 4294967296 (some ⟨w.heap.size, 0, none⟩) (m + 2) ds := hdb.row hdw
  have k2 := shiftLeft_any x ca xs c (xs.length + 1) w1 (ha.next hb1) (by omega) hc32 (.inr rfl) hxr.out
  rw [show ((xs.length + 1 : Nat) : Int) = (xs.length : Int) + 1 from by omega] at k2
  replace k2 : Hid _ := k2
  replace hdv : Hid _ := hdv
  replace hdl : Hid _ := hdl
  replace hdn : Hid _ := hdn
  clear k1 kz hcell
  go_wp2_with fail
  refine Calls.mono k2.out ?_
  rintro e w2 ⟨us, rfl, hub, hul, huw, huv, hb2⟩
  rw [hul] at hub ⊢
  clear k2
  have hst := long_start huw hdw hdl.out hul hll hc32 (val_nonneg (by decide) wx) (val_lt (by decide) wx) huv hdn.out
  have hmk := mk22 ((xs.length : Int) - ((m : Int) + 2) + 1) (by omega) (by omega) w2
  rw [show ((xs.length : Int) - ((m : Int) + 2) + 1).toNat = xs.length - (m + 2) + 1 from by omega] at hmk
  replace huv : Hid _ := huv
  replace hul : Hid _ := hul
  replace hst : Hid _ := hst
  have hqB := Blk.new w2 .u32 139 (zeros (xs.length - (m + 2) + 1)) (by rw [zeros_len]; unfold maxLen; omega)
  rw [zeros_len] at hqB
  have hal : Below w2.heap.size w2 (w2.alloc (.cells (cellsOf .u32 (zeros (xs.length - (m + 2) + 1))) 139)) := (Below.refl _ _).alloc (Nat.le_refl _) _
  have hub' := hub.next hal
  have hlt2 := hub.lt
  have hb12 : Below w1.heap.size w1 (w2.alloc (.cells (cellsOf .u32 (zeros (xs.length - (m + 2) + 1))) 139)) := hb2.trans (hal.mono hb2.size)
  obtain ⟨lq, hlq⟩ : ∃ lq, xs.length - (m + 2) = lq := ⟨_, rfl⟩
  have hlq1 : xs.length ≤ lq + (m + 2) := by omega
  have hlq2 : lq + (m + 2) ≤ xs.length := by omega
  rw [hlq] at hmk hqB hub' hb12 hst
  clear hlq hal hub
  replace hb1 : Hid _ := hb1
  go_wp2
  generalize w2.alloc (.cells (cellsOf .u32 (zeros (lq + 1))) 139) = w3 at *
  go_loopw [11] (fun i wr => ∃ (k : Nat) (ss qs : List Int), k ≤ lq + 1 ∧ i = .int .i64 ((k : Int) - 1) ∧ Blk wr w1.heap.size .u32 139 (xs.length + 1) ss ∧ Hid (ss.length = xs.length + 1) ∧ Words 4294967296 ss ∧ Blk wr w2.heap.size .u32 139 (lq + 1) qs ∧ Hid (qs.length = lq + 1) ∧ Words 4294967296 qs ∧ Hid (∀ j, j < k → ss[j]?.getD 0 = us[j]?.getD 0) ∧ Hid (val 4294967296 (us.drop k) = val 4294967296 ds * val 4294967296 (qs.drop k) + val 4294967296 (ss.drop k)) ∧ Hid (val 4294967296 (ss.drop k) < val 4294967296 ds) ∧ Below w1.heap.size w1 wr) (fun i _ => (intOf i + 1).toNat)
  case atStart => exact ⟨lq + 1, us, zeros (lq + 1), Nat.le_refl _, by congr 1; omega, hub', hul, huw, hqB, zeros_len _, zeros_words (by decide) _, fun _ _ => rfl, zeros_start us _ lq, hst, hb12⟩
  case round =>
    obtain ⟨k, ss, qs, hk, rfl, hblk, hsl, hsw, hqb, hql, hqw, HE, HV, HL, hbel⟩ := hrel
    cases k with
    | zero =>
      have hsv := HL.out
      simp only [List.drop_zero] at hsv
      have hdlt := val_lt (B := 4294967296) (by decide) hdw
      rw [hdl.out] at hdlt
      have hss0 := val_nonneg (B := 4294967296) (by decide) hsw
      have htk := val_take_small (n := m + 2) (by decide) hsw (by omega)
      have hRow : Row wr .u32 4294967296 (some ⟨w1.heap.size, 0, none⟩) (xs.length + 1) (ss.take (m + 2)) := (hblk.take (m + 2)).row (hsw.take _)
      have hlt3 : (ss.take (m + 2)).length = m + 2 := by rw [List.length_take, hsl.out]; omega
      have ks := shiftRight_any (some ⟨w1.heap.size, 0, none⟩) (xs.length + 1) (ss.take (m + 2)) c wr hRow (by omega) hc32
      rw [hlt3, htk] at ks
      replace ks : Hid _ := ks
      have hle := long_end (X := val 4294967296 xs) (Y := val 4294967296 ys) (Q := val 4294967296 qs) (S := val 4294967296 ss) (pow_pos' (B := 2) (by decide) c) (by
        have e := HV.out
        simp only [List.drop_zero] at e
        rw [huv.out, hdv.out] at e
        exact e) (by rw [← hdv.out]; exact hsv) hss0
      replace hle : Hid _ := hle
      clear hRow hsv hdlt hss0 htk hlt3
      go_wp2_with fail
      refine Calls.mono ks.out ?_
      rintro e w4 ⟨rs, rfl, hrb, hrl, hrw, hrv, hb4⟩
      clear ks
      rw [hrl] at hrb
      replace hrl : Hid _ := hrl
      replace hrv : Hid _ := hrv
      have s1 := hb1.out.size
      have s2 := hb2.size
      have s3 := hbel.size
      go_wp2
      refine bodyPost_ret (v := .tuple #[.slice (some ⟨w2.heap.size, 0, none⟩) (lq + 1) (lq + 1), .slice (some ⟨wr.heap.size, 0, none⟩) (m + 2) (m + 2)]) (by simp [results, Tryz.results263, go_sem, hrl.out]) rfl ⟨⟨_, _, qs, _, _, rs, by rw [hql.out, hrl.out], (hqb.next hb4).own hqw (by omega), hrb.own hrw (by omega), ?_, ?_, by rw [hql.out]; omega, by rw [hrl.out]; omega⟩, bthen (hb1.out.trans (hbel.mono s1)) hb4⟩
      · rw [hrv.out]; exact hle.out.1
      · rw [hrv.out]; exact hle.out.2
    | succ k =>
      have hks : k < ss.length := by rw [hsl.out]; omega
      have kd := divideStep_any w1 w1.heap.size k m (xs.length + 1 - k) (m + 2) (xs.length + 1) ss ds ⟨w.heap.size, 0, none⟩ wr hdr hbel (Nat.le_refl _) hblk hsw hdl.out (by rw [hsl.out]; omega) (by rw [hsl.out]; omega) (by omega) (by unfold maxLen; omega) hdn.out HL.out
      replace kd : Hid _ := kd
      go_wp2_with fail
      rw [show k + (m + 2) + 1 - k = m + 2 + 1 from by omega]
      refine Calls.mono kd.out ?_
      rintro e w4 ⟨q, ss', rfl, hq0, hq1, hb', hl', hw', hsame, hval, hlt, hgr⟩
      clear kd
      have hqb' := hqb.grown hgr (by omega)
      have hcs := hqb'.cell k (by rw [hql.out]; omega)
      have hfr := hqb'.frozen k
      generalize qs[k]?.getD 0 = old at hcs
      have HS : Hid (Hid (val 4294967296 (us.drop k) = val 4294967296 ds * val 4294967296 ((qs.set k q).drop k) + val 4294967296 (ss'.drop k))) := long_step (by rw [hql.out]; omega) (HE.out k (by omega)) HV.out hval
      have HL2 : Hid (Hid (val 4294967296 (ss'.drop k) < val 4294967296 ds)) := hlt
      have HE2 : Hid (Hid (∀ j, j < k → ss'[j]?.getD 0 = us[j]?.getD 0)) := fun j hj => (hsame j hj).trans (HE.out j (by omega))
      have hl2 : Hid (Hid (ss'.length = xs.length + 1)) := hl'.trans hsl.out
      have hbel4 := grown_below' hbel hgr (Nat.le_refl _)
      clear hval hlt hsame hl' hqb hblk HV HL HE hgr
      go_wp2
      go_roundw
      case rel => exact ⟨k, ss', _, by omega, rfl, hb'.other _ _ (by simp; omega), hl2, hw', hqb'.set k _, by show _ = _; rw [List.length_set]; exact hql.out, hqw.set k (by omega), HE2, HS, HL2, hbel4.setCell (by simp; omega) _⟩
      case measure => simp [intOf]
end Go.Proofs.YtclokcoimdjaeaaGreatDoor
