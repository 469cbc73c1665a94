/- The second road's Round32. -/
import Derived.Test.YtmpefgemlpnbiaaGreatMmm
namespace Go.Proofs.YtmpefgemlpnbiaaGreat
set_option linter.unusedVariables false
open Go.RowKit
attribute [local go_sem ↓] Go.wp_at_zero Go.wp_at_succ
/-- The units of a rounding to a float32. -/
theorem units32 {p q x U : Int} (hp : 0 < p) (hq : 0 < q) (hx : IsExp p q x) (hU : U = max (x - 23) (-149)) : 0 ≤ near (scN p U) (scD q U) ∧ near (scN p U) (scD q U) ≤ 16777216 ∧ (U ≠ -149 → 8388608 ≤ near (scN p U) (scD q U)) := by
  have hS0 := scN_nonneg (y := p) (by omega) U
  have hS1 := scD_pos hq U
  have hlt := sc_lt (k := 24) hq hx (u := U) (by omega)
  have hq' := quo_lt hS1 hlt
  have e24 : (2 : Int) ^ 24 = 16777216 := by decide
  rw [e24] at hq'
  have hn := near_le hS0 hS1
  refine ⟨hn.1, by omega, fun hne => ?_⟩
  have hge := sc_ge (k := 23) hq hx (u := U) (by omega)
  have e23 : (2 : Int) ^ 23 = 8388608 := by decide
  rw [e23] at hge
  have h1 : 8388608 ≤ scN p U / scD q U := by
    rw [Int.le_ediv_iff_mul_le hS1, Int.mul_comm]
    exact hge
  have := near_ge (y := scN p U) (z := scD q U)
  omega
theorem r32_is {p q x U k : Int} (hp : 0 < p) (hq : 0 < q) (hx : IsExp p q x) (hU : U = max (x - 23) (-149)) (h1 : 104 < U → k = 2139095040) (h2 : U ≤ 104 → k = (U + 149) * 8388608 + near (scN p U) (scD q U)) : R32 p q k := by
  have hdA : dA q = q := by unfold dA; rw [if_neg (by omega)]; omega
  have hpa : (p.natAbs : Int) = p := by omega
  unfold R32
  rw [hdA, hpa]
  have e23 : (2 : Int) ^ ((24 : Int) - 1).toNat = 8388608 := by decide
  have hM : max (x - (24 - 1)) (-149) = U := by omega
  refine ⟨fun h => by omega, fun _ => ⟨x, hx, ?_, ?_⟩⟩
  · rw [hM]; exact h1
  · rw [hM, e23]
    intro h
    rw [h2 h]
    congr 2
/-- Where the second road says it is a number. -/
theorem round_yes32 {p q x U : Int} {L : Nat} (hp : 0 < p) (hq : 0 < q) (hx : IsExp p q x) (hU : U = max (x - 23) (-149)) (hL : HasBits (near (scN p U) (scD q U)) L) (h : (L : Int) + U ≤ 128) : U ≤ 104 ∧ (U = 104 → near (scN p U) (scD q U) < 16777216) ∧ R32 p q ((U + 149) * 8388608 + near (scN p U) (scD q U)) := by
  obtain ⟨n0, n1, n2⟩ := units32 hp hq hx hU
  have hu : U ≤ 104 := by
    by_cases hc : U ≤ 104
    · exact hc
    · have := bits_ge (m := 23) hL (n2 (by omega))
      omega
  refine ⟨hu, fun he => ?_, r32_is hp hq hx hU (fun hc => by omega) (fun _ => rfl)⟩
  by_cases hc : near (scN p U) (scD q U) < 16777216
  · exact hc
  · have := bits_ge (m := 24) hL (show (16777216 : Int) ≤ _ by omega)
    omega
theorem round_no32 {p q x U : Int} {L : Nat} (hp : 0 < p) (hq : 0 < q) (hx : IsExp p q x) (hU : U = max (x - 23) (-149)) (hL : HasBits (near (scN p U) (scD q U)) L) (h : ¬ (L : Int) + U ≤ 128) : R32 p q 2139095040 := by
  obtain ⟨n0, n1, n2⟩ := units32 hp hq hx hU
  refine r32_is hp hq hx hU (fun _ => rfl) (fun hu => ?_)
  have h25 : L ≤ 25 := by
    by_cases hc : L ≤ 25
    · exact hc
    · have : (33554432 : Int) ≤ _ := bits_lt (m := 25) hL (by omega)
      omega
  have h24 : (16777216 : Int) ≤ near (scN p U) (scD q U) := bits_lt (m := 24) hL (by omega)
  have e1 : near (scN p U) (scD q U) = 16777216 := by omega
  have e2 : U = 104 := by omega
  rw [e1, e2]
  decide
theorem R32.uniq {p q : Int} {k k' : Nat} (h : R32 p q k) (h' : R32 p q k') : k = k' := by
  have := RoundIs.uniq (dA_pos q) h h'
  omega
theorem R32.neg {p q r : Int} (h : R32 (-p) q r) : R32 p q r := by
  unfold R32 at *
  rw [Int.natAbs_neg] at h
  exact h
theorem read_neg {s : Nat} (hs : s < 9218868437227405312) : FloatKind.f64.format.read (s + 9223372036854775808) = .number true (dgC s) (dgU s) := by
  rw [read_double (s + 9223372036854775808) (by omega), show (s + 9223372036854775808) % 9223372036854775808 = s from by omega, decide_eq_true (show 9223372036854775808 ≤ s + 9223372036854775808 by omega)]
  unfold dgC dgU
  by_cases h : s < 4503599627370496
  · rw [if_pos h, if_pos (by omega), if_pos (by omega), Nat.mod_eq_of_lt h]
  · rw [if_neg h, if_pos hs, if_neg (by omega), if_neg (by omega)]
    congr 1
    omega
theorem fin32 {x : Nat} (hx : x < 4294967296) (h : x % 2147483648 < 2139095040) : (FloatKind.f32.decode x).isInfinity = false := by
  have hs : FloatKind.f32.format.signWeight = 2147483648 := by decide
  have hb : FloatKind.f32.format.binade = 8388608 := by decide
  have hi : FloatKind.f32.format.infRung = 2139095040 := by decide
  unfold FloatKind.decode Ieee.Format.read
  simp only [hs, hb, hi]
  by_cases h1 : x % 2147483648 < 8388608
  · rw [if_pos h1]; rfl
  · rw [if_neg h1, if_pos h]; rfl
theorem near32 {n : Nat} {U : Int} (h0 : n ≠ 0) (hn : n ≤ 16777216) (hu : U = -149 ∨ (-149 < U ∧ 8388608 ≤ n)) (hb1 : (U + 149).toNat * 8388608 + n < 2139095040) (neg : Bool) : FloatKind.f32.format.nearest neg (n * 2 ^ (52 - n.log2)) (U + n.log2 - 52) = FloatKind.f32.format.word neg ((U + 149).toNat * 8388608 + n) := by
  have hb : FloatKind.f32.format.binade = 8388608 := by decide
  have hi : FloatKind.f32.format.infRung = 2139095040 := by decide
  have hlp : FloatKind.f32.format.leastPlace = -149 := by decide
  have hfb : FloatKind.f32.format.fractionBits = 23 := by decide
  have hl : n.log2 < 25 := by rw [Nat.log2_lt h0]; show n < 33554432; omega
  have hbig : 8388608 ≤ n ↔ 23 ≤ n.log2 := by rw [Nat.le_log2 h0]
  have h24 : 16777216 ≤ n ↔ 24 ≤ n.log2 := by rw [Nat.le_log2 h0]
  have hmag : n * 2 ^ (52 - n.log2) ≠ 0 := Nat.mul_ne_zero h0 (by have := Nat.two_pow_pos (52 - n.log2); omega)
  have hlog : (n * 2 ^ (52 - n.log2)).log2 = 52 := by rw [log2_mul _ _ h0]; omega
  unfold Ieee.Format.nearest
  rw [if_neg hmag, hb, hi, hlp, hfb, hlog]
  by_cases h : 16777216 ≤ n
  · have hn2 : n = 16777216 := by omega
    have hlg : n.log2 = 24 := by omega
    have e2 : max (U + n.log2 - 52 + ((52 : Nat) : Int) - ((23 : Nat) : Int)) (-149) = U + 1 := by omega
    simp only [e2]
    have e3 : Ieee.Toward.even.cut neg ((n * 2 ^ (52 - n.log2)) <<< (U + n.log2 - 52 - (U + 1)).toNat) (U + 1 - (U + n.log2 - 52)).toNat = 8388608 := by
      rw [hlg, hn2, show (U + ((24 : Nat) : Int) - 52 - (U + 1)).toNat = 0 from by omega, show (U + 1 - (U + ((24 : Nat) : Int) - 52)).toNat = 29 from by omega]
      cases neg <;> decide +kernel
    have e4 : (U + 1 - -149).toNat * 8388608 + 8388608 = (U + 149).toNat * 8388608 + n := by omega
    rw [e3, e4, Nat.min_eq_left (Nat.le_of_lt hb1)]
  · have e2 : max (U + n.log2 - 52 + ((52 : Nat) : Int) - ((23 : Nat) : Int)) (-149) = U := by omega
    simp only [e2]
    have e3 : Ieee.Toward.even.cut neg ((n * 2 ^ (52 - n.log2)) <<< (U + n.log2 - 52 - U).toNat) (U - (U + n.log2 - 52)).toNat = n := by
      rw [show (U + n.log2 - 52 - U).toNat = 0 from by omega, Nat.shiftLeft_zero, show (U - (U + n.log2 - 52)).toNat = 52 - n.log2 from by omega]
      exact cut_exact neg n _ h0
    have e4 : (U - -149).toNat = (U + 149).toNat := by omega
    rw [e3, e4, Nat.min_eq_left (Nat.le_of_lt hb1)]
/-- A float64 that a float32 has. -/
theorem to32_pos {n R : Nat} {U : Int} (h0 : n ≠ 0) (hn : n ≤ 16777216) (hu : U = -149 ∨ (-149 < U ∧ 8388608 ≤ n)) (hR : (U + 149).toNat * 8388608 + n = R) (hb1 : R < 2139095040) {z : Nat} (hz : z < 9218868437227405312) (hC : dgC z = n * 2 ^ (52 - n.log2)) (hU : dgU z = U + n.log2 - 52) :
    floatToFloatBits .f64 z .f32 = some R ∧ floatToFloatBits .f64 (z + 9223372036854775808) .f32 = some (R + 2147483648) := by
  have kn := near32 h0 hn hu (by rw [hR]; exact hb1)
  rw [hR] at kn
  have k0 : FloatKind.f32.encode (.number false (dgC z) (dgU z)) = R := by
    rw [hC, hU]
    refine (kn false).trans ?_
    unfold Ieee.Format.word
    rw [if_neg (by decide)]
  have k1 : FloatKind.f32.encode (.number true (dgC z) (dgU z)) = R + 2147483648 := by
    rw [hC, hU]
    refine (kn true).trans ?_
    have hs : FloatKind.f32.format.signWeight = 2147483648 := by decide
    unfold Ieee.Format.word
    rw [if_pos rfl, hs, Nat.add_comm]
  clear kn hC hU hu hn h0 hR
  have i0 := fin32 (x := R) (by omega) (by omega)
  have i1 := fin32 (x := R + 2147483648) (by omega) (by omega)
  unfold floatToFloatBits
  constructor
  · rw [if_neg (by decide), show FloatKind.f64.decode z = _ from read_pos hz]
    simp only [k0, i0]
    rfl
  · rw [if_neg (by decide), show FloatKind.f64.decode (z + 9223372036854775808) = _ from read_neg hz]
    simp only [k1, i1]
    rfl
theorem Ldexp_small {n : Nat} {U : Int} (h0 : n ≠ 0) (hn : n ≤ 16777216) (hu : -149 ≤ U ∧ U ≤ 104) : ∃ z : Nat, z < 9218868437227405312 ∧ z ≠ 0 ∧ dgC z = n * 2 ^ (52 - n.log2) ∧ dgU z = U + n.log2 - 52 ∧
    ∀ w, Calls Tryz.prog 102 #[.float .f64 (encI n), .int .i64 U] w fun e w' => e = .returned (.float .f64 z) ∧ w' = w := by
  obtain ⟨c, c1, c2, hv, hx, hf, hs, hs1⟩ := encI_parts h0 (show n ≤ 9007199254740992 by omega)
  have hl : n.log2 < 25 := by rw [Nat.log2_lt h0]; show n < 33554432; omega
  have hcn : c = n * 2 ^ (52 - n.log2) := by
    apply Nat.eq_of_mul_eq_mul_right (Nat.two_pow_pos n.log2)
    rw [hv, Nat.mul_assoc, ← Nat.pow_add, show 52 - n.log2 + n.log2 = 52 from by omega]
  obtain ⟨Y, hY⟩ : ∃ Y, Y = (U + ((encI n / 4503599627370496 : Nat) : Int)).toNat * 4503599627370496 + encI n % 4503599627370496 := ⟨_, rfl⟩
  have hY2 := hY
  rw [hx, hf] at hY2
  have y1 : Y / 4503599627370496 = (U + n.log2 + 1023).toNat := by omega
  have y2 : Y % 4503599627370496 = c - 4503599627370496 := by omega
  refine ⟨Y, by omega, by omega, ?_, ?_, fun w => ?_⟩
  · unfold dgC; rw [y1, y2, if_neg (by omega)]; omega
  · unfold dgU; rw [y1, if_neg (by omega)]; omega
  · apply Ldexp_call
    have k := ldexp_norm (encI n) U w hs1 hs (by omega) (by omega) (by omega)
    rw [← hY] at k
    exact k
theorem conv_inf : floatToFloatBits .f64 9218868437227405312 .f32 = some 2139095040 ∧ floatToFloatBits .f64 18442240474082181120 .f32 = some 4286578688 ∧ floatToFloatBits .f64 0 .f32 = some 0 := by decide +kernel
theorem conv32 {z r : Nat} (h : floatToFloatBits .f64 z .f32 = some r) (w : World) : (convert 39 42 (.float .f64 z)).run Tryz.prog w = .ok (.float .f32 r) w :=
  run_convert_float_float w 39 42 .f64 .f32 z r (by kernel_rfl) (by kernel_rfl) h
theorem round32_parts {p q : Int} {w : World} {v : Value} (hp : 0 < p) (hq : 0 < q) (h : RoundR p q 24 (-149) 128 w v) :
    ∃ (t : Value) (U : Int) (b : Bool) (n z r : Nat), v = .tuple #[t, .int .i64 U, .bool b] ∧ Rint w t (n : Int) 390 ∧ n ≤ 9007199254740992 ∧ (b = false → R32 p q (2139095040 : Nat)) ∧
      (b = true → (∀ w, Calls Tryz.prog 102 #[.float .f64 (encI n), .int .i64 U] w fun e w' => e = .returned (.float .f64 z) ∧ w' = w) ∧ R32 p q (r : Nat) ∧ r < 2139095040 ∧ z < 9218868437227405312 ∧ (z = 0 → r = 0) ∧ (z ≠ 0 → r ≠ 0) ∧ floatToFloatBits .f64 z .f32 = some r ∧ (z ≠ 0 → floatToFloatBits .f64 (z + 9223372036854775808) .f32 = some (r + 2147483648))) := by
  obtain ⟨x, t, L, hx, hL, rfl, hR⟩ := h
  obtain ⟨U, hU⟩ : ∃ U, U = max (x - (24 - 1)) (-149) := ⟨_, rfl⟩
  rw [← hU] at hL hR ⊢
  have hU' : U = max (x - 23) (-149) := by omega
  obtain ⟨n0, n1, n2⟩ := units32 hp hq hx hU'
  have hy := round_yes32 hp hq hx hU' hL
  have hno := round_no32 hp hq hx hU' hL
  obtain ⟨n, hn⟩ : ∃ n : Nat, near (scN p U) (scD q U) = (n : Int) := ⟨(near (scN p U) (scD q U)).toNat, by omega⟩
  rw [hn] at hR hL hy n0 n1 n2
  by_cases hz : n = 0
  · subst hz
    refine ⟨t, U, _, 0, 0, 0, rfl, hR, by omega, fun hb => hno (by simpa using hb), fun hb => ?_⟩
    obtain ⟨u1, u2, u3⟩ := hy (by simpa using hb)
    have hu : U = -149 := by omega
    subst hu
    exact ⟨fun w => Ldexp_zero _ w, u3, by decide, by decide, fun _ => rfl, fun h => absurd rfl h, conv_inf.2.2, fun h => absurd rfl h⟩
  · by_cases hb : (L : Int) + U ≤ 128
    · obtain ⟨u1, u2, u3⟩ := hy hb
      obtain ⟨z, z1, z2, z3, z4, kL⟩ := Ldexp_small (U := U) hz (by omega) (by omega)
      have hr : (U + 149).toNat * 8388608 + n < 2139095040 := by omega
      obtain ⟨f1, f2⟩ := to32_pos hz (by omega) (by omega) rfl hr z1 z3 z4
      have e1 : ((((U + 149).toNat * 8388608 + n : Nat)) : Int) = (U + 149) * 8388608 + n := by omega
      exact ⟨t, U, _, n, z, (U + 149).toNat * 8388608 + n, rfl, hR, by omega, fun h => by simp [hb] at h, fun _ => ⟨kL, by rw [e1]; exact u3, hr, z1, fun h => absurd h z2, fun _ => by omega, f1, fun _ => f2⟩⟩
    · exact ⟨t, U, _, n, 0, 0, rfl, hR, by omega, fun _ => hno hb, fun h => by simp [hb] at h⟩
theorem sgn32_pos {p q : Int} (hp : 0 ≤ p) (hq : 0 < q) (k : Nat) : sgn32 p q k = k := by
  unfold sgn32 pN
  rw [if_neg (show ¬ q < 0 by omega), if_neg (by omega)]
theorem sgn32_neg {p q : Int} (hp : p < 0) (hq : 0 < q) {k : Nat} (hk : k ≠ 0) : sgn32 p q k = k + 2147483648 := by
  unfold sgn32 pN
  rw [if_neg (show ¬ q < 0 by omega), if_pos ⟨hk, hp⟩]
theorem sgn32_zero (p q : Int) : sgn32 p q 0 = 0 := by
  unfold sgn32
  rw [if_neg (by omega)]
set_option maxRecDepth 20000 in
set_option maxHeartbeats 8000000 in
theorem Round32R_num {w : World} {u : Value} {p q : Int} (hu : RatR w u p q 145) (hq : 0 < q) :
    Calls Tryz.prog 18 #[u] w fun e w' => ∃ k : Nat, e = .returned (.float .f32 (sgn32 p q k)) ∧ R32 p q k ∧ Below w.heap.size w w' := by
  obtain ⟨n1, a1, l1, c1, n2, a2, l2, c2, rfl⟩ := hu.form
  obtain ⟨W, hW, hB, x0, e0, e1, e2, e3⟩ := box34 w n1 a1 l1 c1 n2 a2 l2 c2
  replace hu := hu.next hB
  obtain ⟨z0, z1, z2⟩ := hu.parts.1.len
  by_cases hp0 : p = 0
  · have hl : l1 = 0 := z0.2 hp0
    subst hp0
    subst hl
    clear z0 z1 z2 hu
    go_enter Tryz.func18, Tryz.ntmps18
    go_upto_region 1 with fail
    rw [← hW]
    clear hW
    go_wp2
    go_ret
    exact ⟨0, by rw [sgn32_zero]; rfl, ⟨fun _ => rfl, fun h => absurd rfl h⟩, hB⟩
  · have hl0 : ¬ l1 = 0 := fun h => hp0 (z0.1 h)
    have hl : ((l1 : Int) == 0) = false := by simpa using hl0
    have hl2 : (l1 == 0) = false := by simpa using hl0
    clear z0
    cases n1 with
    | true =>
      have hp : p < 0 := z1.1 rfl
      have hpn : 0 < -p := by omega
      clear z1 z2
      go_enter Tryz.func18, Tryz.ntmps18
      go_upto_region 1 with fail
      rw [← hW]
      clear hW
      go_wp2_with fail
      refine Calls.mono (NegRat_num hu) ?_
      rintro e w5 ⟨t5, rfl, hR, b5⟩
      obtain ⟨n3, a3, l3, c3, n4, a4, l4, c4, rfl⟩ := hR.form
      have z1 := x0.next b5
      obtain ⟨_, _, _, _, _, _, _, _, j0, j1, j2, j3, ff⟩ := z1.cells
      have f0 := ff 0
      have f1 := ff 1
      have f2 := ff 2
      have f3 := ff 3
      clear ff
      obtain ⟨V, hV, hch, hbx, v0, v1, v2, v3⟩ := put_one z1 n3 a3 l3 c3 n4 a4 l4 c4
      have hRV := hR.chg hch z1.noint
      have hBV := bthen hB b5
      replace hBV : Below w.heap.size w V := hBV.trans (hch.below _ (Nat.le_refl _))
      clear hR b5 hB hch hbx hu e0 e1 e2 e3 x0
      go_upto_region 6 with fail
      rw [← hV]
      clear hV j0 j1 j2 j3 f0 f1 f2 f3 z1
      have hu := hRV
      have hB := hBV
      have e0 := v0
      have e1 := v1
      have e2 := v2
      have e3 := v3
      clear hRV hBV v0 v1 v2 v3
      go_wp2_with fail
      refine Calls.mono (roundR_num hu hpn hq 24 (-149) 128 ⟨by decide, by decide⟩ ⟨by decide, by decide⟩ ⟨by decide, by decide⟩) ?_
      rintro e w1 ⟨v, rfl, hR, b1⟩
      obtain ⟨t, U, b, n, z, r, rfl, hT, hn, kf, kt⟩ := round32_parts hpn hq hR
      obtain ⟨n3, a3, l3, c3, rfl⟩ := hT.form
      obtain ⟨W3, hW3, b3, ⟨s0, s1⟩, _⟩ := box_b2 w1 n3 a3 l3 c3
      replace hT := hT.next b3
      replace hB := bthen hB (bthen b1 b3)
      clear hR b1 b3 hu e0 e1 e2 e3
      go_upto_region 7 with fail
      rw [← hW3]
      clear hW3
      generalize w1.heap.size = g3 at *
      replace hT : Hid _ := hT
      replace hn : Hid _ := hn
      go_wp2_with fail
      refine Calls.mono (InfP_any _) ?_
      rintro e w2 ⟨rfl, rfl⟩
      cases b with
      | false =>
        have hR : Hid _ := kf rfl
        clear kf kt hT
        have d0 := order_zero2 (s := 9218868437227405312) (by decide) (by decide)
        have hr : ∀ w, Sem.run Tryz.prog (Op.unary .neg (.float .f64 9218868437227405312)) w = .ok (.float .f64 18442240474082181120) w := fun w => neg_up (s := 9218868437227405312) (by decide) w
        have hv := fun w => conv32 conv_inf.2.1 w
        go_wp2
        go_ret
        exact ⟨2139095040, by rw [sgn32_neg hp hq (by decide)]; rfl, R32.neg hR.out, hB⟩
      | true =>
        obtain ⟨kL, hz, hlr, hlt, q1, q2, f1, f2⟩ := kt rfl
        clear kf kt
        replace hz : Hid _ := hz
        go_wp2_with fail
        refine Calls.mono (value_num hT.out (by decide) hn.out U z kL) ?_
        rintro e w3 ⟨rfl, b4⟩
        replace hB := bthen hB b4
        clear hT b4 kL hn
        by_cases hzz : z = 0
        · obtain rfl := q1 hzz
          subst hzz
          have d0 : (FloatKind.f64.format.order 0 0 != some .eq) = false := by decide +kernel
          have hv := fun w => conv32 f1 w
          clear f1 f2 q1 q2
          go_wp2
          go_ret
          exact ⟨0, by rw [sgn32_zero]; rfl, R32.neg hz.out, hB⟩
        · have d0 := order_zero2 hzz (by omega)
          have hr : ∀ w, Sem.run Tryz.prog (Op.unary .neg (.float .f64 z)) w = .ok (.float .f64 (z + 9223372036854775808)) w := fun w => neg_up (by omega) w
          have hs : Hid _ := sgn32_neg hp hq (q2 hzz)
          have hv := fun w => conv32 (f2 hzz) w
          clear hzz hlt f1 f2 q1 q2
          go_wp2
          go_ret
          exact ⟨r, by rw [hs.out]; rfl, R32.neg hz.out, hB⟩
    | false =>
      have hp : 0 < p := by have : ¬ p < 0 := fun h => by have := z1.2 h; cases this
                            omega
      clear z1 z2
      go_enter Tryz.func18, Tryz.ntmps18
      go_upto_region 1 with fail
      rw [← hW]
      clear hW
      go_wp2_with fail
      refine Calls.mono (roundR_num hu hp hq 24 (-149) 128 ⟨by decide, by decide⟩ ⟨by decide, by decide⟩ ⟨by decide, by decide⟩) ?_
      rintro e w1 ⟨v, rfl, hR, b1⟩
      obtain ⟨t, U, b, n, z, r, rfl, hT, hn, kf, kt⟩ := round32_parts hp hq hR
      obtain ⟨n3, a3, l3, c3, rfl⟩ := hT.form
      obtain ⟨W3, hW3, b3, ⟨s0, s1⟩, _⟩ := box_b2 w1 n3 a3 l3 c3
      replace hT := hT.next b3
      replace hB := bthen hB (bthen b1 b3)
      clear hR b1 b3 hu e0 e1 e2 e3
      go_upto_region 7 with fail
      rw [← hW3]
      clear hW3
      generalize w1.heap.size = g3 at *
      replace hT : Hid _ := hT
      replace hn : Hid _ := hn
      go_wp2_with fail
      refine Calls.mono (InfP_any _) ?_
      rintro e w2 ⟨rfl, rfl⟩
      cases b with
      | false =>
        have hR : Hid _ := kf rfl
        clear kf kt hT
        have hv := fun w => conv32 conv_inf.1 w
        go_wp2
        go_ret
        exact ⟨2139095040, by rw [sgn32_pos (by omega) hq]; rfl, hR.out, hB⟩
      | true =>
        obtain ⟨kL, hz, hlr, hlt, q1, q2, f1, f2⟩ := kt rfl
        clear kf kt
        replace hz : Hid _ := hz
        go_wp2_with fail
        refine Calls.mono (value_num hT.out (by decide) hn.out U z kL) ?_
        rintro e w3 ⟨rfl, b4⟩
        replace hB := bthen hB b4
        clear hT b4 kL hn
        have hv := fun w => conv32 f1 w
        clear f1 f2 q1 q2
        go_wp2
        go_ret
        exact ⟨r, by rw [sgn32_pos (by omega) hq]; rfl, hz.out, hB⟩
end Go.Proofs.YtmpefgemlpnbiaaGreat
namespace Go.Proofs.YtmpefgemlpnbiaaGreat
set_option linter.unusedVariables false
open Go.RowKit
attribute [local go_sem ↓] Go.wp_at_zero Go.wp_at_succ
theorem bits32 (b : Nat) (w : World) : (callFunc 20 #[.float .f32 b]).run Tryz.prog w = .ok (.value (.int .u32 b)) w := by
  rw [run_callFunc_extern (e := Extern.MathFloatBits.float32bits) Tryz.func20 (by kernel_rfl) (by kernel_rfl) (by kernel_rfl) (by kernel_rfl)]
  rfl
theorem low_le {n d p q : Int} (hd : 0 < d) (h : Low n d p q) : p.natAbs ≤ n.natAbs ∧ q ≤ d := by
  obtain ⟨hq, hg, he⟩ := h
  have h1 : q.natAbs ∣ p.natAbs * d.natAbs := by
    rw [← Int.natAbs_mul, he, Int.natAbs_mul]
    exact Nat.dvd_mul_left _ _
  have h2 : q.natAbs ∣ d.natAbs := Nat.Coprime.dvd_of_dvd_mul_left (by rw [Nat.coprime_comm]; exact hg) h1
  have h3 := Nat.le_of_dvd (by omega) h2
  refine ⟨?_, by omega⟩
  have h4 : p.natAbs * d.natAbs = n.natAbs * q.natAbs := by rw [← Int.natAbs_mul, he, Int.natAbs_mul]
  have h5 : n.natAbs * q.natAbs ≤ n.natAbs * d.natAbs := Nat.mul_le_mul_left _ h3
  rw [← h4] at h5
  exact Nat.le_of_mul_le_mul_right h5 (by omega)
theorem pw_lt {k : Int} (h0 : -1300 ≤ k) (h1 : k ≤ 1300) {E : Nat} (hE : E = 1300) : 0 < pwN k ∧ pwN k ≤ 2 ^ E ∧ 0 < pwD k ∧ pwD k ≤ 2 ^ E := by
  have h := two_pos E
  unfold pwN pwD
  by_cases hk : k < 0
  · rw [if_pos hk, if_pos hk]
    exact ⟨by decide, by omega, two_pos _, pow_le2 (by omega)⟩
  · rw [if_neg hk, if_neg hk]
    exact ⟨two_pos _, pow_le2 (by omega), by decide, by omega⟩
theorem Rint.bnd {w : World} {v : Value} {z : Int} {m : Nat} (h : Rint w v z m) {E : Nat} (hE : E = 16 * m) : (z.natAbs : Int) < 2 ^ E := by
  have := h.bound
  rw [show (65536 : Int) = 2 ^ 16 from by decide, ← Int.pow_mul, ← hE] at this
  exact this
/-- A fraction of few digits times a power of two stays small. -/
theorem mul_small {P Q k p q : Int} {a b E F : Nat} (ha : a = 208) (hb : b = 1300) (hE : E = 1760) (hP : (P.natAbs : Int) < 2 ^ a) (hQ0 : 0 < Q) (hQ : (Q.natAbs : Int) < 2 ^ a) (h0 : -1300 ≤ k) (h1 : k ≤ 1300) (h : Low (pN (P * pwN k) (Q * pwD k)) (pD (Q * pwD k)) p q) : (p.natAbs : Int) < 2 ^ E ∧ (q.natAbs : Int) < 2 ^ E := by
  obtain ⟨w1, w2, w3, w4⟩ := pw_lt h0 h1 hb
  have hD : 0 < Q * pwD k := Int.mul_pos hQ0 w3
  rw [pN_pos hD, pD_of hD] at h
  obtain ⟨l1, l2⟩ := low_le hD h
  have hq := h.1
  have hab : (2 : Int) ^ a * 2 ^ b ≤ 2 ^ E := by rw [← Int.pow_add]; exact pow_le2 (by omega)
  have hp2 := two_pos b
  constructor
  · have e1 : ((P * pwN k).natAbs : Int) = (P.natAbs : Int) * pwN k := by
      rw [Int.natAbs_mul, Int.natCast_mul]
      congr 1
      omega
    have e2 : (P.natAbs : Int) * pwN k ≤ (P.natAbs : Int) * 2 ^ b := Int.mul_le_mul_of_nonneg_left w2 (by omega)
    have e3 : (P.natAbs : Int) * 2 ^ b < 2 ^ a * 2 ^ b := Int.mul_lt_mul_of_pos_right hP hp2
    have e4 : (p.natAbs : Int) ≤ ((P * pwN k).natAbs : Int) := by exact_mod_cast l1
    generalize (2 : Int) ^ a * 2 ^ b = A at *
    generalize (P.natAbs : Int) * 2 ^ b = B at *
    generalize (2 : Int) ^ E = C at *
    omega
  · have e2 : Q * pwD k ≤ Q * 2 ^ b := Int.mul_le_mul_of_nonneg_left w4 (by omega)
    have e3 : Q * 2 ^ b < 2 ^ a * 2 ^ b := Int.mul_lt_mul_of_pos_right (by omega) hp2
    generalize (2 : Int) ^ a * 2 ^ b = A at *
    generalize Q * 2 ^ b = B at *
    generalize (2 : Int) ^ E = C at *
    omega
theorem RatR.fit {w : World} {v : Value} {p q : Int} {n : Nat} (h : RatR w v p q n) {E : Nat} (k : Nat) (hE : E = 16 * k) (hp : (p.natAbs : Int) < 2 ^ E) (hq : (q.natAbs : Int) < 2 ^ E) : RatR w v p q k := by
  refine h.tight k ?_ ?_
  · rw [show (65536 : Int) = 2 ^ 16 from by decide, ← Int.pow_mul, ← hE]; exact hp
  · rw [show (65536 : Int) = 2 ^ 16 from by decide, ← Int.pow_mul, ← hE]; exact hq
theorem RatR.parts' {w : World} {v : Value} {p q : Int} {m : Nat} (h : RatR w v p q m) : (∃ v, Rint w v p m) ∧ ∃ v, Rint w v q m := by
  obtain ⟨n1, a1, l1, c1, n2, a2, l2, c2, rfl⟩ := h.form
  exact ⟨⟨_, h.parts.1⟩, ⟨_, h.parts.2⟩⟩
theorem RatR.bnd {w : World} {v : Value} {p q : Int} {m : Nat} (h : RatR w v p q m) {E : Nat} (hE : E = 16 * m) : (p.natAbs : Int) < 2 ^ E ∧ (q.natAbs : Int) < 2 ^ E := by
  obtain ⟨⟨_, h1⟩, ⟨_, h2⟩⟩ := h.parts'
  exact ⟨h1.bnd hE, h2.bnd hE⟩
set_option maxRecDepth 20000 in
set_option maxHeartbeats 8000000 in
theorem floatRound_any (n1 : Bool) (x1 : Option Addr) (c1 : Nat) (xs : List Int) (n2 : Bool) (x2 : Option Addr) (c2 : Nat) (ys : List Int) (k : Int) (w : World) (h1 : Row w .u32 4294967296 x1 c1 xs) (h2 : Row w .u32 4294967296 x2 c2 ys) :
    Calls Tryz.prog 3 #[.agg #[.bool n1, .slice x1 xs.length c1, .bool n2, .slice x2 ys.length c2], .int .i64 k] w fun e w' => e = .returned (.bool true) ∧ Below w.heap.size w w' := by
  obtain ⟨W, hW, hbW, x0, e0, e1, e2, e3⟩ := box_text w n1 x1 xs.length c1 n2 x2 ys.length c2
  replace h1 := h1.next hbW
  replace h2 := h2.next hbW
  go_enter Tryz.func3, Tryz.ntmps3
  go_upto_region 1 with fail
  rw [← hW]
  clear hW
  go_wp2_with fail
  refine Calls.mono (begun_said W) ?_
  rintro e w1 ⟨rfl, b1⟩
  replace e0 := keep_cell b1 e0
  replace e1 := keep_cell b1 e1
  replace e2 := keep_cell b1 e2
  replace e3 := keep_cell b1 e3
  replace x0 := x0.next b1
  replace h1 := h1.next b1
  replace h2 := h2.next b1
  have hB := bthen hbW b1
  clear hbW b1
  have kc : Hid _ := Cut26_any n1 x1 c1 xs n2 x2 c2 ys 5 h1 h2 (by decide)
  obtain ⟨n, d, hF⟩ : ∃ n d, Frac w1 (.agg #[.bool n1, .slice x1 (xs.take 5).length c1, .bool n2, .slice x2 (ys.take 5).length c2]) n d 5 := ⟨_, _, _, _, _, _, _, _, _, _, rfl, ⟨_, _, _, _, rfl, h1.take' 5, rfl, by simp; omega⟩, ⟨_, _, _, _, rfl, h2.take' 5, rfl, by simp; omega⟩⟩
  generalize (xs.take 5).length = l1 at *
  generalize (ys.take 5).length = l2 at *
  clear h1 h2
  go_wp2_with fail
  refine Calls.mono kc.out ?_
  rintro e w2 ⟨rfl, b2⟩
  clear kc e0 e1 e2 e3
  have y0 := x0.next b2
  obtain ⟨_, _, _, _, _, _, _, _, j0, j1, j2, j3, ff⟩ := y0.cells
  have f0 := ff 0
  have f1 := ff 1
  have f2 := ff 2
  have f3 := ff 3
  clear ff
  obtain ⟨V, hV, hch, hbx, v0, v1, v2, v3⟩ := put_one y0 n1 x1 l1 c1 n2 x2 l2 c2
  replace hF : Frac V _ n d 5 := (hF.next b2).chg hch y0.noint
  have hBV := bthen hB b2
  replace hBV : Below w.heap.size w V := hBV.trans (hch.below _ (Nat.le_refl _))
  clear b2 hB hch hbx x0
  go_upto_region 3 with fail
  rw [← hV]
  clear hV j0 j1 j2 j3 f0 f1 f2 f3 y0
  by_cases hlo : k < -1300
  · have d1 : decide (k < -1300) = true := decide_eq_true hlo
    go_wp2_with fail
    refine Calls.mono (FromRat_num hF (by decide)) ?_
    rintro e w3 ⟨t3, rfl, ⟨P, Q, hR, hl⟩, b3⟩
    go_wp2_with fail
    refine Calls.mono (power_num 0 w3 (by omega) (by omega)) ?_
    rintro e w4 ⟨t4, rfl, hP, b4⟩
    replace hR := hR.next b4
    have q0 : 0 < Q := hl.1
    have bP := (hR.bnd (E := 208) rfl).1
    have bQ := (hR.bnd (E := 208) rfl).2
    have wD := (pw_lt (k := 0) (by omega) (by omega) (E := 1300) rfl).2.2.1
    have hne : Hid (Q * pwD 0 ≠ 0) := by
      have := Int.mul_pos q0 wD
      show _ ≠ _
      omega
    have hsm : Hid (∀ p q, Low (pN (P * pwN 0) (Q * pwD 0)) (pD (Q * pwD 0)) p q → (p.natAbs : Int) < 2 ^ 1760 ∧ (q.natAbs : Int) < 2 ^ 1760) := fun p q h => mul_small (F := 0) rfl rfl rfl bP q0 bQ (by omega) (by omega) h
    clear bP bQ wD
    go_wp2_with fail
    refine Calls.mono (MulRat_num (hR.more (by decide)) hP (by decide) hne.out) ?_
    rintro e w5 ⟨t5, rfl, ⟨P2, Q2, hM, hl2⟩, b5⟩
    obtain ⟨s1, s2⟩ := hsm.out P2 Q2 hl2
    have hq2 : Hid (0 < Q2) := hl2.1
    replace hM := hM.fit 110 (E := 1760) rfl s1 s2
    clear s1 s2 hl hl2 hsm hne hP hR q0
    obtain ⟨m1, a1, k1, d1, m2, a2, k2, d2, rfl⟩ := hM.form
    obtain ⟨W5, hW5, b6, _, g0, g1, g2, g3⟩ := box34 w5 m1 a1 k1 d1 m2 a2 k2 d2
    replace hM := hM.next b6
    have hB := bthen hBV (bthen b3 (bthen b4 (bthen b5 b6)))
    clear b3 b4 b5 b6 hF v0 v1 v2 v3 hBV
    go_upto_region 6 with fail
    rw [← hW5]
    clear hW5
    generalize w5.heap.size = G5 at *
    go_wp2_with fail
    refine Calls.mono (ToRat_num hM (by decide)) ?_
    rintro e w6 ⟨t6, rfl, hT, b7⟩
    obtain ⟨m3, a3, k3, d3, m4, a4, k4, d4, rfl⟩ := hT.frac.form
    obtain ⟨W6, hW6, b8, _, r0, r1, r2, r3⟩ := box_text w6 m3 a3 k3 d3 m4 a4 k4 d4
    have b78 := bthen b7 b8
    replace hM := hM.next b78
    replace hT := hT.next b8
    replace g0 := keep_cell b78 g0
    replace g1 := keep_cell b78 g1
    replace g2 := keep_cell b78 g2
    replace g3 := keep_cell b78 g3
    replace hB := bthen hB b78
    clear b7 b8 b78
    go_upto_region 7 with fail
    rw [← hW6]
    clear hW6
    generalize w6.heap.size = G6 at *
    have hD0 : Below W6.heap.size W6 W6.drew := (Below.refl _ _).drew
    have hk1 : Hid (∀ w', Below W6.heap.size W6 w' → Calls Tryz.prog 15 #[.agg #[.bool m3, .slice a3 k3 d3, .bool m4, .slice a4 k4 d4]] w' fun e w'' => ∃ k : Nat, e = .returned (.float .f64 (sgn64 P2 Q2 k)) ∧ R64 P2 Q2 k ∧ Below w'.heap.size w' w'') := fun w' h => Round64_num (hT.next h).frac (by decide)
    have hk2 : Hid (∀ w', Below W6.heap.size W6 w' → Calls Tryz.prog 16 #[.agg #[.bool m1, .slice a1 k1 d1, .bool m2, .slice a2 k2 d2]] w' fun e w'' => ∃ k : Nat, e = .returned (.float .f64 (sgn64 P2 Q2 k)) ∧ R64 P2 Q2 k ∧ Below w'.heap.size w' w'') := fun w' h => Round64R_num ((hM.next h).more (by decide)) hq2.out
    have hk3 : Hid (∀ w', Below W6.heap.size W6 w' → Calls Tryz.prog 17 #[.agg #[.bool m3, .slice a3 k3 d3, .bool m4, .slice a4 k4 d4]] w' fun e w'' => ∃ k : Nat, e = .returned (.float .f32 (sgn32 P2 Q2 k)) ∧ R32 P2 Q2 k ∧ Below w'.heap.size w' w'') := fun w' h => Round32_num (hT.next h).frac (by decide)
    have hk4 : Hid (∀ w', Below W6.heap.size W6 w' → Calls Tryz.prog 18 #[.agg #[.bool m1, .slice a1 k1 d1, .bool m2, .slice a2 k2 d2]] w' fun e w'' => ∃ k : Nat, e = .returned (.float .f32 (sgn32 P2 Q2 k)) ∧ R32 P2 Q2 k ∧ Below w'.heap.size w' w'') := fun w' h => Round32R_num ((hM.next h).more (by decide)) hq2.out
    clear hT hM hq2
    go_cut [8, 9] from 28 (fun a b wc => ∃ S : Nat, a = .float .f64 S ∧ b = .float .f64 S ∧ Below W6.heap.size W6 wc)
    case first =>
      go_region_with (first
        | (go_at_call 15; refine Calls.mono (hk1.out _ hD0) ?_; rintro e w7 ⟨K1, rfl, hR1, hb7⟩; have hB7 : Below W6.heap.size W6 w7 := bthen hD0 hb7; have y0 := keep_cell hB7 g0; have y1 := keep_cell hB7 g1; have y2 := keep_cell hB7 g2; have y3 := keep_cell hB7 g3)
        | (go_at_call 16; refine Calls.mono (hk2.out _ hB7) ?_; rintro e w8 ⟨K2, rfl, hR2, hb8⟩; have hB8 : Below W6.heap.size W6 w8 := bthen hB7 hb8; have hKK : K1 = K2 := R64.uniq hR1 hR2; subst hKK; clear hR1 hR2))
      all_goals
        go_wp2
        go_meet
        case rel => exact ⟨_, rfl, rfl, hB8⟩
    case rest =>
      obtain ⟨S, rfl, rfl, hbc⟩ := hcut
      replace g0 := keep_cell hbc g0
      replace g1 := keep_cell hbc g1
      replace g2 := keep_cell hbc g2
      replace g3 := keep_cell hbc g3
      replace r0 := keep_cell hbc r0
      replace r1 := keep_cell hbc r1
      replace r2 := keep_cell hbc r2
      replace r3 := keep_cell hbc r3
      clear hk1 hk2 hD0
      have hD0 : Below wc.heap.size wc wc.drew := (Below.refl _ _).drew
      have hD1 : Below W6.heap.size W6 wc.drew := bthen hbc hD0
      go_upto_region 8 with fail
      go_cut [10, 11] from 32 (fun a b wd => ∃ S : Nat, a = .float .f32 S ∧ b = .float .f32 S ∧ Below W6.heap.size W6 wd)
      case first =>
        go_region_with (first
          | (go_at_call 17; refine Calls.mono (hk3.out _ hD1) ?_; rintro e w7 ⟨K1, rfl, hR1, hb7⟩; have hB7 : Below W6.heap.size W6 w7 := bthen hD1 hb7; have hC7 : Below wc.heap.size wc w7 := bthen hD0 hb7; have y0 := keep_cell hC7 g0; have y1 := keep_cell hC7 g1; have y2 := keep_cell hC7 g2; have y3 := keep_cell hC7 g3)
          | (go_at_call 18; refine Calls.mono (hk4.out _ hB7) ?_; rintro e w8 ⟨K2, rfl, hR2, hb8⟩; have hB8 : Below W6.heap.size W6 w8 := bthen hB7 hb8; have hKK : K1 = K2 := R32.uniq hR1 hR2; subst hKK; clear hR1 hR2))
        all_goals
          go_wp2
          go_meet
          case rel => exact ⟨_, rfl, rfl, hB8⟩
      case rest =>
        obtain ⟨S2, rfl, rfl, hbd⟩ := hcut
        have hBf := bthen hB hbd
        have hc64 := bits64
        have hc32 := bits32
        clear hk3 hk4 hB hbd hbc hD0 hD1 g0 g1 g2 g3 r0 r1 r2 r3
        go_wp2
        go_ret
        exact ⟨rfl, hBf⟩
  · have d1 : decide (k < -1300) = false := decide_eq_false hlo
    by_cases hhi : k > 1300
    · have d2 : decide (k > 1300) = true := decide_eq_true hhi
      go_wp2_with fail
      refine Calls.mono (FromRat_num hF (by decide)) ?_
      rintro e w3 ⟨t3, rfl, ⟨P, Q, hR, hl⟩, b3⟩
      go_wp2_with fail
      refine Calls.mono (power_num 0 w3 (by omega) (by omega)) ?_
      rintro e w4 ⟨t4, rfl, hP, b4⟩
      replace hR := hR.next b4
      have q0 : 0 < Q := hl.1
      have bP := (hR.bnd (E := 208) rfl).1
      have bQ := (hR.bnd (E := 208) rfl).2
      have wD := (pw_lt (k := 0) (by omega) (by omega) (E := 1300) rfl).2.2.1
      have hne : Hid (Q * pwD 0 ≠ 0) := by
        have := Int.mul_pos q0 wD
        show _ ≠ _
        omega
      have hsm : Hid (∀ p q, Low (pN (P * pwN 0) (Q * pwD 0)) (pD (Q * pwD 0)) p q → (p.natAbs : Int) < 2 ^ 1760 ∧ (q.natAbs : Int) < 2 ^ 1760) := fun p q h => mul_small (F := 0) rfl rfl rfl bP q0 bQ (by omega) (by omega) h
      clear bP bQ wD
      go_wp2_with fail
      refine Calls.mono (MulRat_num (hR.more (by decide)) hP (by decide) hne.out) ?_
      rintro e w5 ⟨t5, rfl, ⟨P2, Q2, hM, hl2⟩, b5⟩
      obtain ⟨s1, s2⟩ := hsm.out P2 Q2 hl2
      have hq2 : Hid (0 < Q2) := hl2.1
      replace hM := hM.fit 110 (E := 1760) rfl s1 s2
      clear s1 s2 hl hl2 hsm hne hP hR q0
      obtain ⟨m1, a1, k1, d1, m2, a2, k2, d2, rfl⟩ := hM.form
      obtain ⟨W5, hW5, b6, _, g0, g1, g2, g3⟩ := box34 w5 m1 a1 k1 d1 m2 a2 k2 d2
      replace hM := hM.next b6
      have hB := bthen hBV (bthen b3 (bthen b4 (bthen b5 b6)))
      clear b3 b4 b5 b6 hF v0 v1 v2 v3 hBV
      go_upto_region 6 with fail
      rw [← hW5]
      clear hW5
      generalize w5.heap.size = G5 at *
      go_wp2_with fail
      refine Calls.mono (ToRat_num hM (by decide)) ?_
      rintro e w6 ⟨t6, rfl, hT, b7⟩
      obtain ⟨m3, a3, k3, d3, m4, a4, k4, d4, rfl⟩ := hT.frac.form
      obtain ⟨W6, hW6, b8, _, r0, r1, r2, r3⟩ := box_text w6 m3 a3 k3 d3 m4 a4 k4 d4
      have b78 := bthen b7 b8
      replace hM := hM.next b78
      replace hT := hT.next b8
      replace g0 := keep_cell b78 g0
      replace g1 := keep_cell b78 g1
      replace g2 := keep_cell b78 g2
      replace g3 := keep_cell b78 g3
      replace hB := bthen hB b78
      clear b7 b8 b78
      go_upto_region 7 with fail
      rw [← hW6]
      clear hW6
      generalize w6.heap.size = G6 at *
      have hD0 : Below W6.heap.size W6 W6.drew := (Below.refl _ _).drew
      have hk1 : Hid (∀ w', Below W6.heap.size W6 w' → Calls Tryz.prog 15 #[.agg #[.bool m3, .slice a3 k3 d3, .bool m4, .slice a4 k4 d4]] w' fun e w'' => ∃ k : Nat, e = .returned (.float .f64 (sgn64 P2 Q2 k)) ∧ R64 P2 Q2 k ∧ Below w'.heap.size w' w'') := fun w' h => Round64_num (hT.next h).frac (by decide)
      have hk2 : Hid (∀ w', Below W6.heap.size W6 w' → Calls Tryz.prog 16 #[.agg #[.bool m1, .slice a1 k1 d1, .bool m2, .slice a2 k2 d2]] w' fun e w'' => ∃ k : Nat, e = .returned (.float .f64 (sgn64 P2 Q2 k)) ∧ R64 P2 Q2 k ∧ Below w'.heap.size w' w'') := fun w' h => Round64R_num ((hM.next h).more (by decide)) hq2.out
      have hk3 : Hid (∀ w', Below W6.heap.size W6 w' → Calls Tryz.prog 17 #[.agg #[.bool m3, .slice a3 k3 d3, .bool m4, .slice a4 k4 d4]] w' fun e w'' => ∃ k : Nat, e = .returned (.float .f32 (sgn32 P2 Q2 k)) ∧ R32 P2 Q2 k ∧ Below w'.heap.size w' w'') := fun w' h => Round32_num (hT.next h).frac (by decide)
      have hk4 : Hid (∀ w', Below W6.heap.size W6 w' → Calls Tryz.prog 18 #[.agg #[.bool m1, .slice a1 k1 d1, .bool m2, .slice a2 k2 d2]] w' fun e w'' => ∃ k : Nat, e = .returned (.float .f32 (sgn32 P2 Q2 k)) ∧ R32 P2 Q2 k ∧ Below w'.heap.size w' w'') := fun w' h => Round32R_num ((hM.next h).more (by decide)) hq2.out
      clear hT hM hq2
      go_cut [8, 9] from 28 (fun a b wc => ∃ S : Nat, a = .float .f64 S ∧ b = .float .f64 S ∧ Below W6.heap.size W6 wc)
      case first =>
        go_region_with (first
          | (go_at_call 15; refine Calls.mono (hk1.out _ hD0) ?_; rintro e w7 ⟨K1, rfl, hR1, hb7⟩; have hB7 : Below W6.heap.size W6 w7 := bthen hD0 hb7; have y0 := keep_cell hB7 g0; have y1 := keep_cell hB7 g1; have y2 := keep_cell hB7 g2; have y3 := keep_cell hB7 g3)
          | (go_at_call 16; refine Calls.mono (hk2.out _ hB7) ?_; rintro e w8 ⟨K2, rfl, hR2, hb8⟩; have hB8 : Below W6.heap.size W6 w8 := bthen hB7 hb8; have hKK : K1 = K2 := R64.uniq hR1 hR2; subst hKK; clear hR1 hR2))
        all_goals
          go_wp2
          go_meet
          case rel => exact ⟨_, rfl, rfl, hB8⟩
      case rest =>
        obtain ⟨S, rfl, rfl, hbc⟩ := hcut
        replace g0 := keep_cell hbc g0
        replace g1 := keep_cell hbc g1
        replace g2 := keep_cell hbc g2
        replace g3 := keep_cell hbc g3
        replace r0 := keep_cell hbc r0
        replace r1 := keep_cell hbc r1
        replace r2 := keep_cell hbc r2
        replace r3 := keep_cell hbc r3
        clear hk1 hk2 hD0
        have hD0 : Below wc.heap.size wc wc.drew := (Below.refl _ _).drew
        have hD1 : Below W6.heap.size W6 wc.drew := bthen hbc hD0
        go_upto_region 8 with fail
        go_cut [10, 11] from 32 (fun a b wd => ∃ S : Nat, a = .float .f32 S ∧ b = .float .f32 S ∧ Below W6.heap.size W6 wd)
        case first =>
          go_region_with (first
            | (go_at_call 17; refine Calls.mono (hk3.out _ hD1) ?_; rintro e w7 ⟨K1, rfl, hR1, hb7⟩; have hB7 : Below W6.heap.size W6 w7 := bthen hD1 hb7; have hC7 : Below wc.heap.size wc w7 := bthen hD0 hb7; have y0 := keep_cell hC7 g0; have y1 := keep_cell hC7 g1; have y2 := keep_cell hC7 g2; have y3 := keep_cell hC7 g3)
            | (go_at_call 18; refine Calls.mono (hk4.out _ hB7) ?_; rintro e w8 ⟨K2, rfl, hR2, hb8⟩; have hB8 : Below W6.heap.size W6 w8 := bthen hB7 hb8; have hKK : K1 = K2 := R32.uniq hR1 hR2; subst hKK; clear hR1 hR2))
          all_goals
            go_wp2
            go_meet
            case rel => exact ⟨_, rfl, rfl, hB8⟩
        case rest =>
          obtain ⟨S2, rfl, rfl, hbd⟩ := hcut
          have hBf := bthen hB hbd
          have hc64 := bits64
          have hc32 := bits32
          clear hk3 hk4 hB hbd hbc hD0 hD1 g0 g1 g2 g3 r0 r1 r2 r3
          go_wp2
          go_ret
          exact ⟨rfl, hBf⟩
    · have d2 : decide (k > 1300) = false := decide_eq_false hhi
      go_wp2_with fail
      refine Calls.mono (FromRat_num hF (by decide)) ?_
      rintro e w3 ⟨t3, rfl, ⟨P, Q, hR, hl⟩, b3⟩
      go_wp2_with fail
      refine Calls.mono (power_num k w3 (by omega) (by omega)) ?_
      rintro e w4 ⟨t4, rfl, hP, b4⟩
      replace hR := hR.next b4
      have q0 : 0 < Q := hl.1
      have bP := (hR.bnd (E := 208) rfl).1
      have bQ := (hR.bnd (E := 208) rfl).2
      have wD := (pw_lt (k := k) (by omega) (by omega) (E := 1300) rfl).2.2.1
      have hne : Hid (Q * pwD k ≠ 0) := by
        have := Int.mul_pos q0 wD
        show _ ≠ _
        omega
      have hsm : Hid (∀ p q, Low (pN (P * pwN k) (Q * pwD k)) (pD (Q * pwD k)) p q → (p.natAbs : Int) < 2 ^ 1760 ∧ (q.natAbs : Int) < 2 ^ 1760) := fun p q h => mul_small (F := 0) rfl rfl rfl bP q0 bQ (by omega) (by omega) h
      clear bP bQ wD
      go_wp2_with fail
      refine Calls.mono (MulRat_num (hR.more (by decide)) hP (by decide) hne.out) ?_
      rintro e w5 ⟨t5, rfl, ⟨P2, Q2, hM, hl2⟩, b5⟩
      obtain ⟨s1, s2⟩ := hsm.out P2 Q2 hl2
      have hq2 : Hid (0 < Q2) := hl2.1
      replace hM := hM.fit 110 (E := 1760) rfl s1 s2
      clear s1 s2 hl hl2 hsm hne hP hR q0
      obtain ⟨m1, a1, k1, d1, m2, a2, k2, d2, rfl⟩ := hM.form
      obtain ⟨W5, hW5, b6, _, g0, g1, g2, g3⟩ := box34 w5 m1 a1 k1 d1 m2 a2 k2 d2
      replace hM := hM.next b6
      have hB := bthen hBV (bthen b3 (bthen b4 (bthen b5 b6)))
      clear b3 b4 b5 b6 hF v0 v1 v2 v3 hBV
      go_upto_region 6 with fail
      rw [← hW5]
      clear hW5
      generalize w5.heap.size = G5 at *
      go_wp2_with fail
      refine Calls.mono (ToRat_num hM (by decide)) ?_
      rintro e w6 ⟨t6, rfl, hT, b7⟩
      obtain ⟨m3, a3, k3, d3, m4, a4, k4, d4, rfl⟩ := hT.frac.form
      obtain ⟨W6, hW6, b8, _, r0, r1, r2, r3⟩ := box_text w6 m3 a3 k3 d3 m4 a4 k4 d4
      have b78 := bthen b7 b8
      replace hM := hM.next b78
      replace hT := hT.next b8
      replace g0 := keep_cell b78 g0
      replace g1 := keep_cell b78 g1
      replace g2 := keep_cell b78 g2
      replace g3 := keep_cell b78 g3
      replace hB := bthen hB b78
      clear b7 b8 b78
      go_upto_region 7 with fail
      rw [← hW6]
      clear hW6
      generalize w6.heap.size = G6 at *
      have hD0 : Below W6.heap.size W6 W6.drew := (Below.refl _ _).drew
      have hk1 : Hid (∀ w', Below W6.heap.size W6 w' → Calls Tryz.prog 15 #[.agg #[.bool m3, .slice a3 k3 d3, .bool m4, .slice a4 k4 d4]] w' fun e w'' => ∃ k : Nat, e = .returned (.float .f64 (sgn64 P2 Q2 k)) ∧ R64 P2 Q2 k ∧ Below w'.heap.size w' w'') := fun w' h => Round64_num (hT.next h).frac (by decide)
      have hk2 : Hid (∀ w', Below W6.heap.size W6 w' → Calls Tryz.prog 16 #[.agg #[.bool m1, .slice a1 k1 d1, .bool m2, .slice a2 k2 d2]] w' fun e w'' => ∃ k : Nat, e = .returned (.float .f64 (sgn64 P2 Q2 k)) ∧ R64 P2 Q2 k ∧ Below w'.heap.size w' w'') := fun w' h => Round64R_num ((hM.next h).more (by decide)) hq2.out
      have hk3 : Hid (∀ w', Below W6.heap.size W6 w' → Calls Tryz.prog 17 #[.agg #[.bool m3, .slice a3 k3 d3, .bool m4, .slice a4 k4 d4]] w' fun e w'' => ∃ k : Nat, e = .returned (.float .f32 (sgn32 P2 Q2 k)) ∧ R32 P2 Q2 k ∧ Below w'.heap.size w' w'') := fun w' h => Round32_num (hT.next h).frac (by decide)
      have hk4 : Hid (∀ w', Below W6.heap.size W6 w' → Calls Tryz.prog 18 #[.agg #[.bool m1, .slice a1 k1 d1, .bool m2, .slice a2 k2 d2]] w' fun e w'' => ∃ k : Nat, e = .returned (.float .f32 (sgn32 P2 Q2 k)) ∧ R32 P2 Q2 k ∧ Below w'.heap.size w' w'') := fun w' h => Round32R_num ((hM.next h).more (by decide)) hq2.out
      clear hT hM hq2
      go_cut [8, 9] from 28 (fun a b wc => ∃ S : Nat, a = .float .f64 S ∧ b = .float .f64 S ∧ Below W6.heap.size W6 wc)
      case first =>
        go_region_with (first
          | (go_at_call 15; refine Calls.mono (hk1.out _ hD0) ?_; rintro e w7 ⟨K1, rfl, hR1, hb7⟩; have hB7 : Below W6.heap.size W6 w7 := bthen hD0 hb7; have y0 := keep_cell hB7 g0; have y1 := keep_cell hB7 g1; have y2 := keep_cell hB7 g2; have y3 := keep_cell hB7 g3)
          | (go_at_call 16; refine Calls.mono (hk2.out _ hB7) ?_; rintro e w8 ⟨K2, rfl, hR2, hb8⟩; have hB8 : Below W6.heap.size W6 w8 := bthen hB7 hb8; have hKK : K1 = K2 := R64.uniq hR1 hR2; subst hKK; clear hR1 hR2))
        all_goals
          go_wp2
          go_meet
          case rel => exact ⟨_, rfl, rfl, hB8⟩
      case rest =>
        obtain ⟨S, rfl, rfl, hbc⟩ := hcut
        replace g0 := keep_cell hbc g0
        replace g1 := keep_cell hbc g1
        replace g2 := keep_cell hbc g2
        replace g3 := keep_cell hbc g3
        replace r0 := keep_cell hbc r0
        replace r1 := keep_cell hbc r1
        replace r2 := keep_cell hbc r2
        replace r3 := keep_cell hbc r3
        clear hk1 hk2 hD0
        have hD0 : Below wc.heap.size wc wc.drew := (Below.refl _ _).drew
        have hD1 : Below W6.heap.size W6 wc.drew := bthen hbc hD0
        go_upto_region 8 with fail
        go_cut [10, 11] from 32 (fun a b wd => ∃ S : Nat, a = .float .f32 S ∧ b = .float .f32 S ∧ Below W6.heap.size W6 wd)
        case first =>
          go_region_with (first
            | (go_at_call 17; refine Calls.mono (hk3.out _ hD1) ?_; rintro e w7 ⟨K1, rfl, hR1, hb7⟩; have hB7 : Below W6.heap.size W6 w7 := bthen hD1 hb7; have hC7 : Below wc.heap.size wc w7 := bthen hD0 hb7; have y0 := keep_cell hC7 g0; have y1 := keep_cell hC7 g1; have y2 := keep_cell hC7 g2; have y3 := keep_cell hC7 g3)
            | (go_at_call 18; refine Calls.mono (hk4.out _ hB7) ?_; rintro e w8 ⟨K2, rfl, hR2, hb8⟩; have hB8 : Below W6.heap.size W6 w8 := bthen hB7 hb8; have hKK : K1 = K2 := R32.uniq hR1 hR2; subst hKK; clear hR1 hR2))
          all_goals
            go_wp2
            go_meet
            case rel => exact ⟨_, rfl, rfl, hB8⟩
        case rest =>
          obtain ⟨S2, rfl, rfl, hbd⟩ := hcut
          have hBf := bthen hB hbd
          have hc64 := bits64
          have hc32 := bits32
          clear hk3 hk4 hB hbd hbc hD0 hD1 g0 g1 g2 g3 r0 r1 r2 r3
          go_wp2
          go_ret
          exact ⟨rfl, hBf⟩
end Go.Proofs.YtmpefgemlpnbiaaGreat
