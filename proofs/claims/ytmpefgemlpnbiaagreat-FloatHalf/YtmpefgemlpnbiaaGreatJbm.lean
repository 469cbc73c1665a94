/- The second road's powers of two as fractions, and its answers as the program's. -/
import Derived.Test.YtmpefgemlpnbiaaGreatHmm
import Derived.Test.YtmpefgemlpnbiaaGreatGim
namespace Go.Proofs.YtmpefgemlpnbiaaGreat
set_option linter.unusedVariables false
open Go.RowKit
attribute [local go_sem ↓] Go.wp_at_zero Go.wp_at_succ
theorem pow2_digit (q r : Nat) : (2 : Int) ^ (16 * q + r) = 65536 ^ q * 2 ^ r := by
  rw [Int.pow_add, Int.pow_mul]; rfl
theorem zeros_set_val (B : Int) (q : Nat) (d : Int) : val B ((zeros (q + 1)).set q d) = d * B ^ q := by
  have h := val_set_take B (zeros (q + 1)) q d (by rw [zeros_len]; omega)
  rw [take_all (by rw [List.length_set, zeros_len]; omega)] at h
  rw [h]
  have e : (zeros (q + 1)).take q = zeros q := by simp [zeros]
  rw [e, zeros_val]
  omega
theorem zeros_set_nrm (q : Nat) (d : Int) (h : d ≠ 0) : nrm ((zeros (q + 1)).set q d) := by
  have e : (zeros (q + 1)).set q d = zeros q ++ [d] := by
    apply List.ext_getElem?
    intro i
    simp only [zeros, List.getElem?_set, List.getElem?_append, List.length_replicate, List.getElem?_replicate]
    by_cases h1 : q = i
    · subst h1; simp
    · by_cases h2 : i < q
      · simp [h1, h2]; omega
      · simp [h1, h2]
        have : ¬ i < q + 1 := by omega
        rw [if_neg this]
        have : i - q ≠ 0 := by omega
        cases hh : i - q with
        | zero => omega
        | succ m => rfl
  rw [e]
  exact nrm_snoc _ _ h
set_option maxHeartbeats 1000000 in
set_option maxRecDepth 20000 in
theorem Power2_any (n : Nat) (w : World) (hn : n ≤ 1000000) :
    Calls Tryz.prog 53 #[.int .i64 n] w fun e w' => ∃ v, e = .returned v ∧ Rout w' w.heap.size v (2 ^ n) (n / 16 + 1) ∧ Below w.heap.size w w' := by
  obtain ⟨W, hW, hbW, hlt, c4, c5, f4, f5⟩ := box1r w (.bool false) (.slice none 0 0) 32
  obtain ⟨q, hq⟩ : ∃ q, q = n / 16 := ⟨_, rfl⟩
  obtain ⟨r, hr⟩ : ∃ r, r = n % 16 := ⟨_, rfl⟩
  have hmk := mk28 ((q : Int) + 1) (by omega) (by omega) W
  rw [show ((q : Int) + 1).toNat = q + 1 from by omega] at hmk
  have e1 : (n : Int).tdiv 16 = (q : Int) := by rw [Int.tdiv_eq_ediv_of_nonneg (by omega)]; omega
  have e2 : (n : Int).tmod 16 = (r : Int) := by rw [Int.tmod_eq_emod_of_nonneg (by omega)]; omega
  have e3 : (n : Int) / 16 = (q : Int) := by omega
  have e4 : (n : Int) % 16 = (r : Int) := by omega
  have hr1 : r < 16 := by omega
  rw [← hq]
  replace hq : Hid _ := hq
  replace hr : Hid _ := hr
  have hpw := pow_mono (B := 2) (by decide) (m := r) (n := 15) (by omega)
  have hp0 := pow_pos' (B := 2) (by decide) r
  have hp15 : (2 : Int) ^ 15 = 32768 := by decide
  have hwr := wrap_i64 (2 ^ r) (by omega) (by omega)
  go_enter Tryz.func53, Tryz.ntmps53
  go_wp2
  rw [← hW, hmk]
  clear hW hmk
  have hz : (zeros (q + 1)).length ≤ maxLen := by rw [zeros_len]; unfold maxLen; omega
  have hblk := Blk.new W .i64 3 (zeros (q + 1)) hz
  rw [zeros_len] at hblk
  have hbA : Below W.heap.size W (W.alloc (.cells (cellsOf .i64 (zeros (q + 1))) 3)) := (Below.refl _ _).alloc (Nat.le_refl _) _
  generalize W.alloc (.cells (cellsOf .i64 (zeros (q + 1))) 3) = W2 at *
  have k4 := keep_cell hbA c4
  have k5 := keep_cell hbA c5
  have g4 := keep_frozen hbA c4 f4
  have g5 := keep_frozen hbA c5 f5
  have hc := hblk.cell q (by rw [zeros_len]; omega)
  have hf := hblk.frozen q
  have hB := bthen hbW hbA
  have hne : w.heap.size ≠ W.heap.size := by omega
  go_wp2
  have hx : Words 65536 ((zeros (q + 1)).set q (2 ^ r)) := (zeros_words (by decide) _).set q (by omega)
  have hl2 : ((zeros (q + 1)).set q (2 ^ r)).length = q + 1 := by rw [List.length_set, zeros_len]
  have hrow := ((((hblk.set q (2 ^ r)).other ⟨w.heap.size, 0, none⟩ (.bool false) hne).other ⟨w.heap.size, 1, none⟩ (.slice (some ⟨W.heap.size, 0, none⟩) (q + 1) (q + 1)) hne).row hx)
  refine bodyPost_ret (v := .agg #[.bool false, .slice (some ⟨W.heap.size, 0, none⟩) (q + 1) (q + 1)]) (by simp [results, Tryz.results53, go_sem, k4, k5]) rfl ⟨_, rfl, ⟨false, _, _, (zeros (q + 1)).set q (2 ^ r), by rw [hl2], ⟨hrow, fun x hx => by cases hx; exact hbW.size⟩, ⟨zeros_set_nrm q _ (by omega), fun h => by cases h⟩, ?_, by rw [hl2]; exact Nat.le_refl _⟩, ((hB.setCell (by exact hbW.size) _).setCell (by simp) _).setCell (by simp) _⟩
  have hnn : n = 16 * q + r := by have := hq.out; have := hr.out; omega
  show val 65536 _ = _
  rw [zeros_set_val, hnn, pow2_digit, Int.mul_comm]
theorem To_num {w : World} {u : Value} {z : Int} {m : Nat} (hu : Rint w u z m) (hm : m ≤ 10000) :
    Calls Tryz.prog 54 #[u] w fun e w' => ∃ t, e = .returned t ∧ OutE w' t z m ∧ Below w.heap.size w w' := by
  obtain ⟨na, x, ca, xs, rfl, ha, hn, rfl, hl⟩ := hu
  refine (To_any na x ca xs w ha hn (by omega)).mono ?_
  rintro e w' ⟨a', cap', rfl, ho, hb⟩
  exact ⟨_, rfl, ⟨_, na, a', cap', paired xs, rfl, ho, ⟨paired_nrm xs ha.words hn.1, fun h => paired_ne xs (hn.2 h)⟩, by simp [num, paired_val], by rw [paired_len]; omega⟩, hb⟩
theorem boxes_torat (w : World) (n1 : Bool) (a1 : Option Addr) (l1 c1 : Nat) (n2 : Bool) (a2 : Option Addr) (l2 c2 : Nat) : ∃ W, W = (w.alloc (.cells #[.bool n1, .slice a1 l1 c1, .bool n2, .slice a2 l2 c2] 34)).alloc (.cells #[.bool false, .slice none 0 0, .bool false, .slice none 0 0] 26) ∧ Below w.heap.size w W ∧
    (W.cell? ⟨w.heap.size, 0, none⟩ = some (.bool n1) ∧ W.cell? ⟨w.heap.size, 1, none⟩ = some (.slice a1 l1 c1) ∧ W.cell? ⟨w.heap.size, 2, none⟩ = some (.bool n2) ∧ W.cell? ⟨w.heap.size, 3, none⟩ = some (.slice a2 l2 c2)) ∧ Box4 W (w.heap.size + 1) := by
  refine ⟨_, rfl, ((Below.refl _ _).alloc (Nat.le_refl _) _).alloc (by simp) _, ⟨?_, ?_, ?_, ?_⟩, ?n0⟩
  case n0 =>
    have h := Box4.new (w.alloc (.cells #[.bool n1, .slice a1 l1 c1, .bool n2, .slice a2 l2 c2] 34)) false none 0 0 false none 0 0 26 (by decide)
    rw [show (w.alloc (.cells #[.bool n1, .slice a1 l1 c1, .bool n2, .slice a2 l2 c2] 34)).heap.size = w.heap.size + 1 from by simp] at h
    exact h
  all_goals simp [go_sem, World.cell?_alloc_past]
set_option maxRecDepth 20000 in
set_option maxHeartbeats 4000000 in
theorem ToRat_num {w : World} {u : Value} {p q : Int} {m : Nat} (hu : RatR w u p q m) (hm : m ≤ 10000) :
    Calls Tryz.prog 14 #[u] w fun e w' => ∃ t, e = .returned t ∧ FracE w' t p q m ∧ Below w.heap.size w w' := by
  obtain ⟨n1, a1, l1, c1, n2, a2, l2, c2, rfl⟩ := hu.form
  obtain ⟨W, hW, hbW, ⟨e0, e1, e2, e3⟩, x0⟩ := boxes_torat w n1 a1 l1 c1 n2 a2 l2 c2
  obtain ⟨hAN, hAD⟩ := (hu.next hbW).parts
  have hD0 : Below W.heap.size W W.drew := (Below.refl _ _).drew
  go_enter Tryz.func14, Tryz.ntmps14
  go_upto_region 1 with fail
  rw [← hW]
  clear hW
  go_region_with (first
    | (go_at_call_of 54 (Value.slice a1 l1 c1); refine Calls.mono (To_num (hAN.next hD0) hm) ?_; rintro e w2 ⟨t, rfl, hO, hb2⟩; obtain ⟨n3, a3, l3, c3, rfl⟩ := hO.num.form; have hB2 : Below W.heap.size W w2 := bthen hD0 hb2; have p2' := keep_cell hB2 e2; have p3' := keep_cell hB2 e3)
    | (go_at_call_of 54 (Value.slice a2 l2 c2); refine Calls.mono (To_num (hAD.next hB2) hm) ?_; rintro e w3 ⟨t, rfl, hP, hb3⟩; obtain ⟨n4, a4, l4, c4, rfl⟩ := hP.num.form; have hB3 : Below W.heap.size W w3 := bthen hB2 hb3; have hO3 := hO.next hb3; have y0 := x0.next hB3; obtain ⟨_, _, _, _, _, _, _, _, j0, j1, j2, j3, f⟩ := y0.cells; have f0 := f 0; have f1 := f 1; have f2 := f 2; have f3 := f 3; clear f))
  all_goals
    have hbx : Hid _ := put4_boxed (base := w.heap.size) y0.noint (by omega) n3 a3 l3 c3 n4 a4 l4 c4
    have hBf := bthen hbW hB3
    have hUf : Hid _ := hbx.out.out hO3
    have hOf : Hid _ := hbx.out.out hP
    clear hO hO3 hP hAN hAD hb2 hB2 hb3 hB3
    go_wp2
    exact bodyPost_ret (v := .agg #[.bool n3, .slice a3 l3 c3, .bool n4, .slice a4 l4 c4]) (by simp [results, Tryz.results14, go_sem, j0, j1, j2, j3]) rfl ⟨_, rfl, ⟨_, _, _, _, _, _, _, _, rfl, hUf.out, hOf.out⟩, hbx.out.keep hBf (Nat.le_refl _) hBf.size⟩
/-- 2^k as a fraction. -/
def pwN (k : Int) : Int := if k < 0 then 1 else 2 ^ k.toNat
def pwD (k : Int) : Int := if k < 0 then 2 ^ (-k).toNat else 1
theorem low_pw {k p q : Int} (hk : k < 0) (h : Low (pN (1 * 1) (1 * 2 ^ (-k).toNat)) (pD (1 * 2 ^ (-k).toNat)) p q) : p = 1 ∧ q = 2 ^ (-k).toNat := by
  have h2 := two_pos (-k).toNat
  rw [Int.one_mul, Int.one_mul, pN_pos h2, pD_of h2] at h
  refine low_uniq h.1 h2 h.2.1 (by simp) ?_
  have := h.2.2
  omega
set_option maxRecDepth 20000 in
set_option maxHeartbeats 4000000 in
theorem power_num (k : Int) (w : World) (h0 : -2000 ≤ k) (h1 : k ≤ 2000) :
    Calls Tryz.prog 13 #[.int .i64 k] w fun e w' => ∃ t, e = .returned t ∧ RatR w' t (pwN k) (pwD k) 300 ∧ Below w.heap.size w w' := by
  obtain ⟨W, hW⟩ : ∃ W, W = w.alloc (.cells #[.bool false, .slice none 0 0, .bool false, .slice none 0 0] 34) := ⟨_, rfl⟩
  have hbW : Below w.heap.size w W := by rw [hW]; exact (Below.refl _ _).alloc (Nat.le_refl _) _
  have x0 : Box4 W w.heap.size := by rw [hW]; exact Box4.new w false none 0 0 false none 0 0 34 (by decide)
  go_enter Tryz.func13, Tryz.ntmps13
  go_upto_region 1 with fail
  rw [← hW]
  clear hW
  go_wp2_with fail
  refine Calls.mono (rOf_one W) ?_
  rintro e w1 ⟨t, rfl, hO, b1⟩
  go_wp2_with fail
  refine Calls.mono (rWhole_num hO.rint) ?_
  rintro e w2 ⟨t', rfl, hR, b2⟩
  obtain ⟨n1, a1, l1, c1, n2, a2, l2, c2, rfl⟩ := hR.form
  obtain ⟨W2, hW2⟩ : ∃ W2, W2 = w2.alloc (.cells #[.bool n1, .slice a1 l1 c1, .bool n2, .slice a2 l2 c2] 34) := ⟨_, rfl⟩
  have b3 : Below w2.heap.size w2 W2 := by rw [hW2]; exact (Below.refl _ _).alloc (Nat.le_refl _) _
  have e0 : W2.cell? ⟨w2.heap.size, 0, none⟩ = some (.bool n1) := by rw [hW2]; simp [go_sem]
  have e1 : W2.cell? ⟨w2.heap.size, 1, none⟩ = some (.slice a1 l1 c1) := by rw [hW2]; simp [go_sem]
  have e2 : W2.cell? ⟨w2.heap.size, 2, none⟩ = some (.bool n2) := by rw [hW2]; simp [go_sem]
  have e3 : W2.cell? ⟨w2.heap.size, 3, none⟩ = some (.slice a2 l2 c2) := by rw [hW2]; simp [go_sem]
  have b13 := bthen (bthen b1 b2) b3
  replace hR := hR.next b3
  replace x0 := x0.next b13
  have hB := bthen hbW b13
  clear hO b1 b2 b3 b13 hbW
  go_upto_region 2 with fail
  rw [← hW2]
  clear hW2
  generalize w2.heap.size = g3 at *
  have hD0 : Below W2.heap.size W2 W2.drew := (Below.refl _ _).drew
  by_cases hk : k < 0
  · obtain ⟨n, rfl⟩ : ∃ n : Nat, k = -(n : Int) := ⟨(-k).toNat, by omega⟩
    have hd : decide (-(n : Int) ≥ 0) = false := by simp; omega
    have hwk : IntKind.i64.wrap (n : Int) = (n : Int) := by rw [IntKind.wrap_i64]; omega
    have hN : Hid (pwN (-(n : Int)) = 1) := by show _ = _; unfold pwN; rw [if_pos hk]
    have hDn : Hid (pwD (-(n : Int)) = 2 ^ n) := by show _ = _; unfold pwD; rw [if_pos hk]; congr 1; omega
    have hlw : Hid (∀ p q, Low (pN (1 * 1) (1 * 2 ^ n)) (pD (1 * 2 ^ n)) p q → p = 1 ∧ q = 2 ^ n) := by
      intro p q h
      have e : (- -(n : Int)).toNat = n := by omega
      have := low_pw (k := -(n : Int)) hk (p := p) (q := q) (by rw [e]; exact h)
      rw [e] at this
      exact this
    have hz : Hid ((1 : Int) * 2 ^ n ≠ 0) := by have := two_pos n; show _ ≠ _; omega
    go_upto_region 4 with fail
    go_region_with (first
      | (go_at_call 53; refine Calls.mono (Power2_any n _ (by omega)) ?_; rintro e w4 ⟨t, rfl, hP, hb4⟩; have hB4 : Below W2.heap.size W2 w4 := bthen hD0 hb4; have p0 := keep_cell hB4 e0; have p1 := keep_cell hB4 e1; have p2 := keep_cell hB4 e2; have p3 := keep_cell hB4 e3)
      | (go_at_call 27; refine Calls.mono (rWhole_num hP.rint) ?_; rintro e w5 ⟨t, rfl, hQ, hb5⟩; have hB5 : Below W2.heap.size W2 w5 := bthen hB4 hb5; have q0 := keep_cell hB5 e0; have q1 := keep_cell hB5 e1; have q2 := keep_cell hB5 e2; have q3 := keep_cell hB5 e3; replace hQ := hQ.more (k := 130) (by omega))
      | (go_at_call 25; refine Calls.mono (QuoRat_num ((hR.next hB5).more (k := 130) (by omega)) hQ (by decide) hz.out) ?_; rintro e w6 ⟨t, rfl, hS, hb6⟩; obtain ⟨n5, a5, l5, c5, n6, a6, l6, c6, rfl⟩ := hS.form; have hB6 : Below W2.heap.size W2 w6 := bthen hB5 hb6; have y0 := x0.next hB6; obtain ⟨_, _, _, _, _, _, _, _, j0, j1, j2, j3, f⟩ := y0.cells; have f0 := f 0; have f1 := f 1; have f2 := f 2; have f3 := f 3; clear f))
    all_goals
      obtain ⟨P, Q, hS, hl⟩ := hS
      obtain ⟨rfl, rfl⟩ := hlw.out P Q hl
      have hbx : Hid _ := put4_boxed (base := w.heap.size) y0.noint (by omega) n5 a5 l5 c5 n6 a6 l6 c6
      have hBf := bthen hB hB6
      obtain ⟨r1, r2⟩ := hS.parts
      have hUf : Hid _ := (hbx.out.rint r1).mono (m := 300) (by omega)
      have hOf : Hid _ := (hbx.out.rint r2).mono (m := 300) (by omega)
      clear hl hP hQ hS hR r1 r2 hb4 hb5 hb6 hB4 hB5 hB6
      go_wp2
      exact bodyPost_ret (v := .agg #[.bool n5, .slice a5 l5 c5, .bool n6, .slice a6 l6 c6]) (by simp [results, Tryz.results13, go_sem, j0, j1, j2, j3]) rfl ⟨_, rfl, by rw [hN.out, hDn.out]; exact ⟨_, _, _, _, _, _, _, _, rfl, hUf.out, hOf.out⟩, hbx.out.keep hBf (Nat.le_refl _) hBf.size⟩
  · obtain ⟨n, rfl⟩ : ∃ n : Nat, k = (n : Int) := ⟨k.toNat, by omega⟩
    have hd : decide ((n : Int) ≥ 0) = true := by simp
    have hN : Hid (pwN (n : Int) = 2 ^ n) := by show _ = _; unfold pwN; rw [if_neg hk]; rfl
    have hDn : Hid (pwD (n : Int) = 1) := by show _ = _; unfold pwD; rw [if_neg hk]
    go_wp2_with fail
    refine Calls.mono (Power2_any n _ (by omega)) ?_
    rintro e w4 ⟨t, rfl, hP, hb4⟩
    go_wp2_with fail
    refine Calls.mono (rWhole_num hP.rint) ?_
    rintro e w5 ⟨t, rfl, hQ, hb5⟩
    obtain ⟨n5, a5, l5, c5, n6, a6, l6, c6, rfl⟩ := hQ.form
    have hB5 : Below W2.heap.size W2 w5 := bthen hb4 hb5
    have y0 := x0.next hB5
    obtain ⟨_, _, _, _, _, _, _, _, j0, j1, j2, j3, f⟩ := y0.cells
    have f0 := f 0
    have f1 := f 1
    have f2 := f 2
    have f3 := f 3
    clear f
    have hbx : Hid _ := put4_boxed (base := w.heap.size) y0.noint (by omega) n5 a5 l5 c5 n6 a6 l6 c6
    have hBf := bthen hB hB5
    obtain ⟨r1, r2⟩ := hQ.parts
    have hUf : Hid _ := (hbx.out.rint r1).mono (m := 300) (by omega)
    have hOf : Hid _ := (hbx.out.rint r2).mono (m := 300) (by omega)
    clear hP hQ hR r1 r2 hb4 hb5 hB5
    go_wp2
    exact bodyPost_ret (v := .agg #[.bool n5, .slice a5 l5 c5, .bool n6, .slice a6 l6 c6]) (by simp [results, Tryz.results13, go_sem, j0, j1, j2, j3]) rfl ⟨_, rfl, by rw [hN.out, hDn.out]; exact ⟨_, _, _, _, _, _, _, _, rfl, hUf.out, hOf.out⟩, hbx.out.keep hBf (Nat.le_refl _) hBf.size⟩
end Go.Proofs.YtmpefgemlpnbiaaGreat
namespace Go.Proofs.YtmpefgemlpnbiaaGreat
set_option linter.unusedVariables false
open Go.RowKit
attribute [local go_sem ↓] Go.wp_at_zero Go.wp_at_succ
theorem Rint.tight {w : World} {v : Value} {z : Int} {n : Nat} (h : Rint w v z n) (k : Nat) (hz : (z.natAbs : Int) < 65536 ^ k) : Rint w v z k := by
  obtain ⟨neg, a, cap, ds, hv, hr, hn, he, hl⟩ := h
  refine ⟨neg, a, cap, ds, hv, hr, hn, he, nrm_len (B := 65536) (by decide) hr.words hn.1 ?_⟩
  have h2 := val_nonneg (B := 65536) (by decide) hr.words
  have h4 : (z.natAbs : Int) = Go.Proofs.YtmpefgemlpnbiaaGreat.val 65536 ds := by subst he; cases neg <;> simp [Go.Proofs.YtmpefgemlpnbiaaGreat.num] <;> omega
  omega
theorem RatR.tight {w : World} {v : Value} {p q : Int} {n : Nat} (h : RatR w v p q n) (k : Nat) (hp : (p.natAbs : Int) < 65536 ^ k) (hq : (q.natAbs : Int) < 65536 ^ k) : RatR w v p q k := by
  obtain ⟨n1, a1, l1, c1, n2, a2, l2, c2, hv, h1, h2⟩ := h
  exact ⟨n1, a1, l1, c1, n2, a2, l2, c2, hv, h1.tight k hp, h2.tight k hq⟩
theorem lowR_at {w : World} {v : Value} {n d : Int} {m : Nat} (h : LowR w v n d m) (P Q : Int) (hd : d ≠ 0) (hQ : 0 < Q) (hg : Nat.gcd P.natAbs Q.natAbs = 1) (e : n * Q = P * d) (b1 : (P.natAbs : Int) < 65536 ^ 100) (b2 : (Q.natAbs : Int) < 65536 ^ 100) : RatR w v P Q 100 := by
  obtain ⟨p, q, h1, h2⟩ := h
  obtain ⟨rfl, rfl⟩ := low_cross h2 (⟨hQ, hg, rfl⟩ : Low P Q P Q) hd (by omega) e
  exact h1.tight 100 b1 b2
theorem R64_at {n d : Int} {k : Nat} (h : R64 n d k) (hn : (n.natAbs : Int) ≠ 0) (e : Int) (he : IsExp (n.natAbs : Int) (dA d) e) (hu : max (e - 52) (-1074) ≤ 971) : (k : Int) = (max (e - 52) (-1074) + 1074) * 4503599627370496 + near (scN (n.natAbs : Int) (max (e - 52) (-1074))) (scD (dA d) (max (e - 52) (-1074))) := by
  obtain ⟨e', he', _, hs⟩ := h.2 hn
  obtain rfl := isExp_uniq (dA_pos d) he' he
  exact hs hu
theorem round_at {w : World} {v : Value} {P Q : Int} (h : FracE w v P Q 100) (b : Nat) (hv : ∀ k : Nat, R64 P Q k → sgn64 P Q k = b) :
    Calls Tryz.prog 15 #[v] w fun e w' => e = .returned (.float .f64 b) ∧ Below w.heap.size w w' := by
  refine (Round64_num h.frac (by decide)).mono ?_
  rintro e w' ⟨k, rfl, hR, hb⟩
  rw [hv k hR]
  exact ⟨rfl, hb⟩
theorem v_top : ∀ k : Nat, R64 (2 ^ 1024 - 2 ^ 970 - 2 ^ 900) 1 k → sgn64 (2 ^ 1024 - 2 ^ 970 - 2 ^ 900) 1 k = 9218868437227405311 := by
  intro k h
  have := R64_at h (by decide +kernel) 1023 ⟨by decide +kernel, by decide +kernel⟩ (by decide)
  have e : (max ((1023 : Int) - 52) (-1074) + 1074) * 4503599627370496 + near (scN (((2 ^ 1024 - 2 ^ 970 - 2 ^ 900 : Int)).natAbs : Int) (max (1023 - 52) (-1074))) (scD (dA 1) (max (1023 - 52) (-1074))) = 9218868437227405311 := by decide +kernel
  rw [e] at this
  obtain rfl : k = 9218868437227405311 := by omega
  decide +kernel
theorem v_over : ∀ k : Nat, R64 (2 ^ 1024 - 2 ^ 970) 1 k → sgn64 (2 ^ 1024 - 2 ^ 970) 1 k = 9218868437227405312 := by
  intro k h
  have := R64_at h (by decide +kernel) 1023 ⟨by decide +kernel, by decide +kernel⟩ (by decide)
  have e : (max ((1023 : Int) - 52) (-1074) + 1074) * 4503599627370496 + near (scN (((2 ^ 1024 - 2 ^ 970 : Int)).natAbs : Int) (max (1023 - 52) (-1074))) (scD (dA 1) (max (1023 - 52) (-1074))) = 9218868437227405312 := by decide +kernel
  rw [e] at this
  obtain rfl : k = 9218868437227405312 := by omega
  decide +kernel
theorem v_tiny : ∀ k : Nat, R64 1 (2 ^ 1074) k → sgn64 1 (2 ^ 1074) k = 1 := by
  intro k h
  have := R64_at h (by decide +kernel) (-1074) ⟨by decide +kernel, by decide +kernel⟩ (by decide)
  have e : (max ((-1074 : Int) - 52) (-1074) + 1074) * 4503599627370496 + near (scN ((1 : Int).natAbs : Int) (max (-1074 - 52) (-1074))) (scD (dA (2 ^ 1074)) (max (-1074 - 52) (-1074))) = 1 := by decide +kernel
  rw [e] at this
  obtain rfl : k = 1 := by omega
  decide +kernel
theorem v_half : ∀ k : Nat, R64 1 (2 ^ 1075) k → sgn64 1 (2 ^ 1075) k = 0 := by
  intro k h
  have := R64_at h (by decide +kernel) (-1075) ⟨by decide +kernel, by decide +kernel⟩ (by decide)
  have e : (max ((-1075 : Int) - 52) (-1074) + 1074) * 4503599627370496 + near (scN ((1 : Int).natAbs : Int) (max (-1075 - 52) (-1074))) (scD (dA (2 ^ 1075)) (max (-1075 - 52) (-1074))) = 0 := by decide +kernel
  rw [e] at this
  obtain rfl : k = 0 := by omega
  decide +kernel
theorem v_more : ∀ k : Nat, R64 (2 ^ 225 + 1) (2 ^ 1300) k → sgn64 (2 ^ 225 + 1) (2 ^ 1300) k = 1 := by
  intro k h
  have := R64_at h (by decide +kernel) (-1075) ⟨by decide +kernel, by decide +kernel⟩ (by decide)
  have e : (max ((-1075 : Int) - 52) (-1074) + 1074) * 4503599627370496 + near (scN (((2 ^ 225 + 1 : Int)).natAbs : Int) (max (-1075 - 52) (-1074))) (scD (dA (2 ^ 1300)) (max (-1075 - 52) (-1074))) = 1 := by decide +kernel
  rw [e] at this
  obtain rfl : k = 1 := by omega
  decide +kernel
theorem v_neg : ∀ k : Nat, R64 (-1) (2 ^ 1080) k → sgn64 (-1) (2 ^ 1080) k = 0 := by
  intro k h
  have := R64_at h (by decide +kernel) (-1080) ⟨by decide +kernel, by decide +kernel⟩ (by decide)
  have e : (max ((-1080 : Int) - 52) (-1074) + 1074) * 4503599627370496 + near (scN ((-1 : Int).natAbs : Int) (max (-1080 - 52) (-1074))) (scD (dA (2 ^ 1080)) (max (-1080 - 52) (-1074))) = 0 := by decide +kernel
  rw [e] at this
  obtain rfl : k = 0 := by omega
  decide +kernel
theorem InfP_any (w : World) : Calls Tryz.prog 23 #[.int .i64 1] w fun e w' => e = .returned (.float .f64 9218868437227405312) ∧ w' = w := by
  have hf := from64
  go_enter Tryz.func23, Tryz.ntmps23
  go_wp2
  go_ret
  exact ⟨rfl, rfl⟩
theorem InfN_any (w : World) : Calls Tryz.prog 23 #[.int .i64 (-1)] w fun e w' => e = .returned (.float .f64 18442240474082181120) ∧ w' = w := by
  have hf := from64
  go_enter Tryz.func23, Tryz.ntmps23
  go_wp2
  go_ret
  exact ⟨rfl, rfl⟩
theorem Copysign0 (w : World) : Calls Tryz.prog 42 #[.float .f64 0, .float .f64 13830554455654793216] w fun e w' => e = .returned (.float .f64 9223372036854775808) ∧ w' = w := by
  have hf := from64
  have hc := bits64
  have h1 : bits .andNot .u64 0 9223372036854775808 = 0 := by decide +kernel
  have h2 : bits .and .u64 13830554455654793216 9223372036854775808 = 9223372036854775808 := by decide +kernel
  have h3 : bits .or .u64 0 9223372036854775808 = 9223372036854775808 := by decide +kernel
  go_enter Tryz.func42, Tryz.ntmps42
  go_wp2
  go_ret
  exact ⟨rfl, rfl⟩
theorem Signbit0 (w : World) : Calls Tryz.prog 43 #[.float .f64 0] w fun e w' => e = .returned (.bool false) ∧ w' = w := by
  have hc := bits64
  go_enter Tryz.func43, Tryz.ntmps43
  go_wp2
  go_ret
  exact ⟨rfl, rfl⟩
theorem TextNInf (w : World) : Calls Tryz.prog 31 #[.float .f64 18442240474082181120] w fun e w' => e = .returned (.string ⟨#[45, 73, 110, 102]⟩) ∧ w' = w := by
  have hc := bits64
  have kn := isNeg_any 18442240474082181120
  have h1 : bits .andNot .u64 18442240474082181120 9223372036854775808 = 9218868437227405312 := by decide +kernel
  replace kn : Hid _ := kn
  go_enter Tryz.func31, Tryz.ntmps31
  go_wp2_with fail
  refine Calls.mono (kn.out _ (by decide)) ?_
  rintro e w1 ⟨rfl, rfl⟩
  go_wp2
  go_ret
  exact ⟨rfl, rfl⟩
end Go.Proofs.YtmpefgemlpnbiaaGreat
