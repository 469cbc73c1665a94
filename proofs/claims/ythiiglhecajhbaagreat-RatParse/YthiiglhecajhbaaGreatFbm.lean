/- scale and Parse at the literal 0x1.8p-1. -/
import Derived.Test.YthiiglhecajhbaaGreatFem
import Derived.Test.YthiiglhecajhbaaGreatFr
import Derived.Test.YthiiglhecajhbaaGreatFim
namespace Go.Proofs.YthiiglhecajhbaaGreat
open Go.RowKit
attribute [local go_sem ↓] Go.wp_at_zero Go.wp_at_succ
theorem outE_tight {w : World} {v : Value} {z : Int} {n : Nat} (h : OutE w v z n) (k : Nat) (hz : -(4294967296 ^ k) < z ∧ z < 4294967296 ^ k) : OutE w v z k := by
  obtain ⟨b, neg, a, cap, ds, r1, r2, r3, r4, r5⟩ := h
  refine ⟨b, neg, a, cap, ds, r1, r2, r3, r4, nrm_len (B := 4294967296) (by decide) r2.row.words r3.1 ?_⟩
  cases neg <;> simp [num] at r4 <;> omega
set_option maxRecDepth 20000 in
set_option maxHeartbeats 4000000 in
theorem scale_lit {w : World} {u : Value} {m : Nat} (hu : Num w u 24 m) (hm : m ≤ 190) :
    Calls Tryz.prog 65 #[u, .int .i64 2, .int .i64 (-5)] w fun e w' => ∃ t, e = .returned t ∧ LowE w' t 24 32 (m + 4) ∧ Below w.heap.size w w' := by
  obtain ⟨n1, a1, l1, c1, rfl⟩ := hu.form
  obtain ⟨W, hW, hbW, ⟨e0, e1⟩, x0⟩ := boxes_whole w n1 a1 l1 c1
  have hU := hu.next hbW
  have hD0 : Below W.heap.size W W.drew := (Below.refl _ _).drew
  have kR := fun w => (raise_num 2 5 w (by decide) (by decide) (by decide))
  replace kR := (show Hid _ from kR)
  go_enter Tryz.func65, Tryz.ntmps65
  go_wp2
  rw [← hW]
  clear hW
  go_region_with (first
    | (go_at_call 101; refine Calls.mono (kR.out _) ?_; rintro e w2 ⟨t, rfl, hO9, hb2⟩; have hO := outE_tight hO9 2 (by decide); clear hO9; obtain ⟨n3, a3, l3, c3, rfl⟩ := hO.num.form; have hB2 : Below W.heap.size W w2 := bthen hD0 hb2; have p0 := keep_cell hB2 e0; have p1 := keep_cell hB2 e1)
    | (go_at_call 45; refine (lowest_pos (Num.frac ((hU.next hB2).more' (m := m + 2) (by omega)) (hO.num.more' (m := m + 2) (by omega)) rfl rfl) (by omega) (by decide)).mono ?_; rintro e w3 ⟨t, rfl, hL, hb3⟩; obtain ⟨n4, a4, l4, c4, n5, a5, l5, c5, rfl⟩ := hL.form; have hB3 : Below W.heap.size W w3 := bthen hB2 hb3; have y0 := x0.next hB3; obtain ⟨_, _, _, _, _, _, _, _, j0, j1, j2, j3, f⟩ := y0.cells; have f0 := f 0; have f1 := f 1; have f2 := f 2; have f3 := f 3; clear f))
  all_goals
    have hbx : Hid _ := put4_boxed (base := w.heap.size) y0.noint (by omega) n4 a4 l4 c4 n5 a5 l5 c5
    have hBf := bthen hbW hB3
    have hLf : Hid _ := hbx.out.lowE hL
    clear hO hL hU hb2 hb3 hB2 hB3
    go_wp2
    exact bodyPost_ret (v := .agg #[.bool n4, .slice a4 l4 c4, .bool n5, .slice a5 l5 c5]) (by simp [results, Tryz.results65, go_sem, j0, j1, j2, j3]) rfl ⟨_, rfl, hLf.out, hbx.out.keep hBf (Nat.le_refl _) hBf.size⟩
theorem floatForm_lit (w : World) : Calls Tryz.prog 62 #[.int .i64 16, .bool true] w fun e w' => e = .returned (.bool true) ∧ Below w.heap.size w w' := by
  go_enter Tryz.func62, Tryz.ntmps62
  go_wp2
  go_ret
  exact ⟨rfl, Below.refl _ _⟩
set_option maxRecDepth 20000 in
set_option maxHeartbeats 4000000 in
theorem parse_lit (w : World) : Calls Tryz.prog 33 #[.string ⟨#[48, 120, 49, 46, 56, 112, 45, 49]⟩] w fun e w' => ∃ t, e = .returned (.tuple #[t, .bool true]) ∧ LowE w' t 24 32 10 ∧ Below w.heap.size w w' := by
  have x0 := Box4.new w false none 0 0 false none 0 0 26 (by decide)
  have hbW : Below w.heap.size w (w.alloc (.cells #[.bool false, .slice none 0 0, .bool false, .slice none 0 0] 26)) := (Below.refl _ _).alloc (Nat.le_refl _) _
  obtain ⟨W, hW⟩ : ∃ W, W = w.alloc (.cells #[.bool false, .slice none 0 0, .bool false, .slice none 0 0] 26) := ⟨_, rfl⟩
  have hlt : w.heap.size < W.heap.size := by rw [hW]; simp
  rw [← hW] at x0 hbW
  have k1 := cutBase_lit W
  replace k1 := (show Hid _ from k1)
  have e1 : (⟨#[49]⟩ : ByteArray) ++ ⟨#[56]⟩ = ⟨#[49, 56]⟩ := by decide
  go_enter Tryz.func33, Tryz.ntmps33
  go_upto_region 1 with fail
  rw [← hW]
  clear hW
  go_wp2_with fail
  refine Calls.mono k1.out ?_
  rintro e w1 ⟨rfl, b1⟩
  go_wp2_with fail
  refine Calls.mono (cutExponent_lit w1) ?_
  rintro e w2 ⟨rfl, b2⟩
  go_wp2_with fail
  refine Calls.mono (cut_lit w2) ?_
  rintro e w3 ⟨rfl, b3⟩
  go_wp2_with fail
  refine Calls.mono (floatForm_lit w3) ?_
  rintro e w4 ⟨rfl, b4⟩
  go_wp2_with fail
  refine Calls.mono (parse_18 w4) ?_
  rintro e w5 ⟨v5, rfl, hO, b5⟩
  have b15 := bthen b1 (bthen b2 (bthen b3 (bthen b4 b5)))
  obtain ⟨n3, a3, l3, c3, rfl⟩ := hO.num.form
  obtain ⟨W5, hW5⟩ : ∃ W5, W5 = w5.alloc (.cells #[.bool n3, .slice a3 l3 c3] 24) := ⟨_, rfl⟩
  have b6 : Below w5.heap.size w5 W5 := by rw [hW5]; exact (Below.refl _ _).alloc (Nat.le_refl _) _
  have g0 : W5.cell? ⟨w5.heap.size, 0, none⟩ = some (.bool n3) := by rw [hW5]; simp [go_sem]
  have g1 : W5.cell? ⟨w5.heap.size, 1, none⟩ = some (.slice a3 l3 c3) := by rw [hW5]; simp [go_sem]
  have hO5 := hO.num.next b6
  go_upto_region 9 with fail
  rw [← hW5]
  clear hW5 hO
  go_wp2_with fail
  refine Calls.mono (parseExponent_lit W5) ?_
  rintro e w6 ⟨rfl, b7⟩
  have h0 := keep_cell b7 g0
  have h1 := keep_cell b7 g1
  go_wp2_with fail
  refine Calls.mono (scale_lit (hO5.next b7) (by decide)) ?_
  rintro e w7 ⟨t, rfl, hL, b8⟩
  have b18 := bthen b15 (bthen b6 (bthen b7 b8))
  obtain ⟨n4, a4, l4, c4, n5, a5, l5, c5, rfl⟩ := hL.form
  have y0 := x0.next b18
  obtain ⟨_, _, _, _, _, _, _, _, j0, j1, j2, j3, f⟩ := y0.cells
  have f0 := f 0
  have f1 := f 1
  have f2 := f 2
  have f3 := f 3
  clear f
  have hbx : Hid _ := put4_boxed (base := w.heap.size) y0.noint (by omega) n4 a4 l4 c4 n5 a5 l5 c5
  have hBf := bthen hbW b18
  have hLf : Hid _ := hbx.out.lowE hL
  clear hL hO5 b15 b18 b1 b2 b3 b4 b5 b6 b7 b8 k1
  go_wp2
  exact bodyPost_ret (v := .tuple #[.agg #[.bool n4, .slice a4 l4 c4, .bool n5, .slice a5 l5 c5], .bool true]) (by simp [results, Tryz.results33, go_sem, j0, j1, j2, j3]) rfl ⟨_, rfl, by obtain ⟨p, q, h1, h2⟩ := hLf.out; exact ⟨p, q, h1.more (by omega), h2⟩, hbx.out.keep hBf (Nat.le_refl _) hBf.size⟩
end Go.Proofs.YthiiglhecajhbaaGreat
namespace Go.Proofs.YthiiglhecajhbaaGreat
open Go.RowKit
attribute [local go_sem ↓] Go.wp_at_zero Go.wp_at_succ
theorem getD' {a : Array Value} {t : Nat} {v : Value} (h : a.getD t undef = v) : a[t]?.getD undef = v := by rwa [Array.getD_eq_getD_getElem?] at h
theorem decs_uniq {y : Int} {ds es : List Int} (h : Decs y ds) (k : Decs y es) : ds = es := by
  by_cases e : y = 0
  · rw [h.2.2.2.2 e, k.2.2.2.2 e]
  · exact nrm_unique (B := 10) (by decide) h.1 k.1 (h.2.2.2.1 e) (k.2.2.2.1 e) (by rw [h.2.2.1, k.2.2.1])
theorem low_uniq {p q x y : Int} (hq : 0 < q) (hy : 0 < y) (h1 : Nat.gcd p.natAbs q.natAbs = 1) (h2 : Nat.gcd x.natAbs y.natAbs = 1) (e : p * y = x * q) : p = x ∧ q = y := by
  have e' : p.natAbs * y.natAbs = x.natAbs * q.natAbs := by rw [← Int.natAbs_mul, ← Int.natAbs_mul, e]
  have d1 : q.natAbs ∣ y.natAbs := Nat.Coprime.dvd_of_dvd_mul_left (m := p.natAbs) (by unfold Nat.Coprime; rw [Nat.gcd_comm]; exact h1) (by rw [e']; exact Nat.dvd_mul_left _ _)
  have d2 : y.natAbs ∣ q.natAbs := Nat.Coprime.dvd_of_dvd_mul_left (m := x.natAbs) (by unfold Nat.Coprime; rw [Nat.gcd_comm]; exact h2) (by rw [← e']; exact Nat.dvd_mul_left _ _)
  have e3 := Nat.dvd_antisymm d1 d2
  have e4 : q = y := by omega
  subst e4
  exact ⟨Int.eq_of_mul_eq_mul_right (by omega) e, rfl⟩
theorem text_qv {w : World} {v : Value} {x y : Int} {m : Nat} (h : Qv w v x y m) (hm : m ≤ 200) (hg : Nat.gcd x.natAbs y.natAbs = 1) {ds es : List Int} (hd : Decs x ds) (he : Decs y es) {s : ByteArray} (hs : txt (decide (x < 0)) ds ++ { data := #[47] } ++ txt (decide (y < 0)) es = s) :
    Calls Tryz.prog 26 #[v] w fun e w' => e = .returned (.string s) ∧ Below w.heap.size w w' := by
  obtain ⟨hy, n, d, hF, hx⟩ := h
  refine (Text26_num hF hm).mono ?_
  rintro e w' ⟨p, q, ds', es', ⟨hq, hpq, hl⟩, hp, hq', rfl, hb⟩
  have hD := pD_pos d
  have e1 : p * y = x * q := by
    have : p * y * pD d = x * q * pD d := by
      have a1 : p * y * pD d = p * pD d * y := by grind
      rw [a1, hl]
      have a2 : pN n d * q * y = pN n d * y * q := by grind
      rw [a2, hx]
      grind
    exact Int.eq_of_mul_eq_mul_right (by omega) this
  obtain ⟨rfl, rfl⟩ := low_uniq hq hy hpq hg e1
  rw [decs_uniq hp hd, decs_uniq hq' he, hs]
  exact ⟨rfl, hb⟩
theorem dec1 (y : Int) (d : Int) (h : 0 < d ∧ d < 10) (e : (y.natAbs : Int) = d) : Decs y [d] :=
  ⟨Words.one ⟨by omega, h.2⟩, by simp, by rw [e]; simp [val], fun _ => ⟨fun _ => by omega, trivial⟩, fun h0 => by subst h0; simp at e; omega⟩
theorem tx3 : txt (decide ((5 : Int) < 0)) [5] = ⟨#[53]⟩ := by decide
theorem tx5 : cmpI (-3 * 4) (3 * 2) = -1 := by decide
theorem dec15 : Decs (-15) [5, 1] := ⟨by intro z hz; simp at hz; omega, by simp, by decide, fun _ => ⟨fun h => by simp at h, fun _ => by decide, trivial⟩, fun h0 => by cases h0⟩
def VB (A B C D : Value) (p1 p3 p5 p7 : Nat) (t : Nat) (v : Value) (w : World) : Prop := match t with
  | 0 => v = .bool true
  | 1 => v = .pointer (some ⟨p1, 0, none⟩)
  | 2 => v = .bool true
  | 3 => v = .pointer (some ⟨p3, 0, none⟩)
  | 4 => v = .bool true
  | 5 => v = .pointer (some ⟨p5, 0, none⟩)
  | 6 => v = .bool true
  | 7 => v = .pointer (some ⟨p7, 0, none⟩)
  | 8 => v = .bool true
  | 31 => v = .bool true
  | 32 => v = .bool true
  | 33 => v = A
  | 34 => v = .string ⟨#[45, 51, 47, 50]⟩
  | 35 => v = .bool true
  | 36 => v = .bool true
  | 37 => v = .bool true
  | 38 => v = .bool true
  | 39 => v = .bool true
  | 40 => v = .bool true
  | 41 => v = B
  | 42 => v = .string ⟨#[51, 47, 52]⟩
  | 43 => v = .bool true
  | 44 => v = .bool true
  | 45 => v = .bool true
  | 46 => v = .bool true
  | 47 => v = .bool true
  | 48 => v = .bool true
  | 49 => v = C
  | 50 => v = .string ⟨#[53]⟩
  | 51 => v = .bool true
  | 52 => v = .bool true
  | 53 => v = .bool true
  | 54 => v = .bool true
  | 55 => v = .bool true
  | 56 => v = .bool true
  | 57 => v = D
  | 58 => v = .string ⟨#[45, 50, 47, 49]⟩
  | 59 => v = .bool true
  | 60 => v = .bool true
  | 61 => v = .bool true
  | 62 => v = A
  | 63 => v = B
  | 64 => v = .int .i64 (-1)
  | 65 => v = .bool true
  | 66 => v = .bool true
  | 67 => v = .bool true
  | 68 => v = A
  | 69 => v = B
  | 70 => Qv w v (-6) 8 47
  | 71 => v = A
  | 72 => v = B
  | 73 => Qv w v (-3) 4 22
  | 74 => Qv w v 9 8 50
  | 75 => Qv w v (-15) 8 107
  | 76 => v = .string ⟨#[45, 49, 53, 47, 56]⟩
  | 77 => v = .bool true
  | 78 => v = .bool true
  | _ => True
theorem VB_next (A B C D : Value) (p1 p3 p5 p7 : Nat) (t : Nat) (v : Value) (w w' : World) (hb : Below w.heap.size w w') (h : VB A B C D p1 p3 p5 p7 t v w) : VB A B C D p1 p3 p5 p7 t v w' := by
  unfold VB at h ⊢
  split at h <;> first | exact h | exact Qv.next h hb
set_option maxRecDepth 20000 in
set_option maxHeartbeats 8000000 in
theorem begun_said : BegunSaid := by
  intro w
  have kP := fun w => parse_lit w
  replace kP := (show Hid _ from kP)
  go_enter Tryz.func6, Tryz.ntmps6
  go_wp2_with fail
  refine Calls.mono (Of_any 6 _ (by decide) (by decide)) ?_
  rintro e w1 ⟨v1, rfl, hO1, b1⟩
  go_wp2_with fail
  refine Calls.mono (Of_any (-4) _ (by decide) (by decide)) ?_
  rintro e w2 ⟨v2, rfl, hO2, b2⟩
  go_wp2_with fail
  refine Calls.mono (Of26_num (hO1.num.next b2) hO2.num (by decide)) ?_
  rintro e w3 ⟨t, rfl, ⟨A, rfl, _, hA⟩, b3⟩
  have hA := ((hA (by decide)).qv (by decide)).to (X := -3) (Y := 2) (by decide) (by decide)
  have hA := hA.more (k := 20) (by decide)
  obtain ⟨n1, x1, l1, c1, n2, x2, l2, c2, rfl⟩ := hA.form
  obtain ⟨W1, hW1⟩ : ∃ W1, W1 = w3.alloc (.cells #[.bool n1, .slice x1 l1 c1, .bool n2, .slice x2 l2 c2] 26) := ⟨_, rfl⟩
  have k1 : Below w3.heap.size w3 W1 := by rw [hW1]; exact (Below.refl _ _).alloc (Nat.le_refl _) _
  have a0 : W1.cell? ⟨w3.heap.size, 0, none⟩ = some (.bool n1) := by rw [hW1]; simp [go_sem]
  have a1 : W1.cell? ⟨w3.heap.size, 1, none⟩ = some (.slice x1 l1 c1) := by rw [hW1]; simp [go_sem]
  have a2 : W1.cell? ⟨w3.heap.size, 2, none⟩ = some (.bool n2) := by rw [hW1]; simp [go_sem]
  have a3 : W1.cell? ⟨w3.heap.size, 3, none⟩ = some (.slice x2 l2 c2) := by rw [hW1]; simp [go_sem]
  replace hA := hA.next k1
  have z1 := bthen b1 (bthen b2 (bthen b3 k1))
  go_upto_region 2 with fail
  rw [← hW1]
  clear hW1 hO1 hO2 b1 b2 b3 k1
  generalize w3.heap.size = p1 at *
  go_wp2_with fail
  refine Calls.mono (kP.out W1) ?_
  rintro e w4 ⟨B, rfl, hB, b4⟩
  have hB := (hB.qv (by decide)).to (X := 3) (Y := 4) (by decide) (by decide)
  have hB := hB.more (k := 20) (by decide)
  obtain ⟨n3, x3, l3, c3, n4, x4, l4, c4, rfl⟩ := hB.form
  obtain ⟨W2, hW2⟩ : ∃ W2, W2 = w4.alloc (.cells #[.bool n3, .slice x3 l3 c3, .bool n4, .slice x4 l4 c4] 26) := ⟨_, rfl⟩
  have k2 : Below w4.heap.size w4 W2 := by rw [hW2]; exact (Below.refl _ _).alloc (Nat.le_refl _) _
  have b0 : W2.cell? ⟨w4.heap.size, 0, none⟩ = some (.bool n3) := by rw [hW2]; simp [go_sem]
  have b1 : W2.cell? ⟨w4.heap.size, 1, none⟩ = some (.slice x3 l3 c3) := by rw [hW2]; simp [go_sem]
  have b2 : W2.cell? ⟨w4.heap.size, 2, none⟩ = some (.bool n4) := by rw [hW2]; simp [go_sem]
  have b3 : W2.cell? ⟨w4.heap.size, 3, none⟩ = some (.slice x4 l4 c4) := by rw [hW2]; simp [go_sem]
  replace hB := hB.next k2
  have k3 := bthen b4 k2
  replace hA := hA.next k3
  replace a0 := keep_cell k3 a0
  replace a1 := keep_cell k3 a1
  replace a2 := keep_cell k3 a2
  replace a3 := keep_cell k3 a3
  have z2 := bthen z1 k3
  go_upto_region 3 with fail
  rw [← hW2]
  clear hW2 b4 k2 k3 z1 kP
  generalize w4.heap.size = p3 at *
  go_wp2_with fail
  refine Calls.mono (Of_any 5 _ (by decide) (by decide)) ?_
  rintro e w5 ⟨v5, rfl, hO5, b5⟩
  go_wp2_with fail
  refine Calls.mono (Whole_num hO5.num (by decide)) ?_
  rintro e w6 ⟨v6, rfl, ⟨p, q, hF, hlow⟩, b6⟩
  go_wp2_with fail
  refine Calls.mono (Int_num hF.frac (by decide)) ?_
  rintro e w7 ⟨t, rfl, ⟨C, rfl, hC, _⟩, b7⟩
  have hpq : p = 5 * q := by have := hlow.2.2; omega
  have hq := hlow.1
  have hN : pN p q = p := by unfold pN; first | rw [if_neg (by omega)] | simp; omega
  rw [pD_of hq, hN, hpq] at hC
  have hm0 : (5 * q).tmod q = 0 := by rw [Int.mul_comm]; exact Int.mul_tmod_right _ _
  have hd0 : (5 * q).tdiv q = 5 := Int.mul_tdiv_cancel _ (by omega)
  have hmt : decide ((pN p q).tmod (pD q) = 0) = true := by rw [pD_of hq, hN, hpq]; simp
  rw [hmt]
  have hC := hC hm0
  rw [hd0] at hC
  have hC := hC.num
  obtain ⟨n5, x5, l5, c5, rfl⟩ := hC.form
  obtain ⟨W3, hW3⟩ : ∃ W3, W3 = w7.alloc (.cells #[.bool n5, .slice x5 l5 c5] 24) := ⟨_, rfl⟩
  have k4 : Below w7.heap.size w7 W3 := by rw [hW3]; exact (Below.refl _ _).alloc (Nat.le_refl _) _
  have cc0 : W3.cell? ⟨w7.heap.size, 0, none⟩ = some (.bool n5) := by rw [hW3]; simp [go_sem]
  have cc1 : W3.cell? ⟨w7.heap.size, 1, none⟩ = some (.slice x5 l5 c5) := by rw [hW3]; simp [go_sem]
  replace hC := hC.next k4
  have k5 := bthen b5 (bthen b6 (bthen b7 k4))
  replace hA := hA.next k5
  replace hB := hB.next k5
  replace a0 := keep_cell k5 a0
  replace a1 := keep_cell k5 a1
  replace a2 := keep_cell k5 a2
  replace a3 := keep_cell k5 a3
  replace b0 := keep_cell k5 b0
  replace b1 := keep_cell k5 b1
  replace b2 := keep_cell k5 b2
  replace b3 := keep_cell k5 b3
  have z3 := bthen z2 k5
  go_upto_region 4 with fail
  rw [← hW3]
  clear hW3 b5 b6 b7 k4 k5 z2 hO5 hF hlow hpq hN hm0 hd0 hmt
  generalize w7.heap.size = p5 at *
  go_wp2_with fail
  refine Calls.mono (Quo_qv hA hB (by decide)) ?_
  rintro e w8 ⟨D, rfl, ⟨n6, x6, l6, c6, n7, x7, l7, c7, rfl⟩, hD, b8⟩
  obtain ⟨dx, dy, hD, hxy⟩ := hD (by decide)
  have hD := hD.to (X := -2) (Y := 1) (by decide) (by omega)
  obtain ⟨W4, hW4⟩ : ∃ W4, W4 = w8.alloc (.cells #[.bool n6, .slice x6 l6 c6, .bool n7, .slice x7 l7 c7] 26) := ⟨_, rfl⟩
  have k6 : Below w8.heap.size w8 W4 := by rw [hW4]; exact (Below.refl _ _).alloc (Nat.le_refl _) _
  have d0 : W4.cell? ⟨w8.heap.size, 0, none⟩ = some (.bool n6) := by rw [hW4]; simp [go_sem]
  have d1 : W4.cell? ⟨w8.heap.size, 1, none⟩ = some (.slice x6 l6 c6) := by rw [hW4]; simp [go_sem]
  have d2 : W4.cell? ⟨w8.heap.size, 2, none⟩ = some (.bool n7) := by rw [hW4]; simp [go_sem]
  have d3 : W4.cell? ⟨w8.heap.size, 3, none⟩ = some (.slice x7 l7 c7) := by rw [hW4]; simp [go_sem]
  replace hD := hD.next k6
  have k7 := bthen b8 k6
  replace hA := hA.next k7
  replace hB := hB.next k7
  replace hC := hC.next k7
  replace a0 := keep_cell k7 a0
  replace a1 := keep_cell k7 a1
  replace a2 := keep_cell k7 a2
  replace a3 := keep_cell k7 a3
  replace b0 := keep_cell k7 b0
  replace b1 := keep_cell k7 b1
  replace b2 := keep_cell k7 b2
  replace b3 := keep_cell k7 b3
  replace cc0 := keep_cell k7 cc0
  replace cc1 := keep_cell k7 cc1
  have z4 := bthen z3 k7
  go_upto_region 5 with fail
  rw [← hW4]
  clear hW4 b8 k6 k7 z3 hxy
  generalize w8.heap.size = p7 at *
  refine wp_region_typed (VB (.agg #[.bool n1, .slice x1 l1 c1, .bool n2, .slice x2 l2 c2]) (.agg #[.bool n3, .slice x3 l3 c3, .bool n4, .slice x4 l4 c4]) (.agg #[.bool n5, .slice x5 l5 c5]) (.agg #[.bool n6, .slice x6 l6 c6, .bool n7, .slice x7 l7 c7]) p1 p3 p5 p7) [1, 2, 3, 4, 5, 6, 7, 8] 79 (by kernel_rfl) (by kernel_rfl) rfl (VB_next _ _ _ _ _ _ _ _) ?hstart ?hstep ?hend
  case hstart =>
   intro t ht
   simp only [List.mem_cons, List.not_mem_nil, or_false] at ht
   rcases ht with rfl | rfl | rfl | rfl | rfl | rfl | rfl | rfl <;> rfl
  case hstep =>
   refine steps_cons ?s0 (steps_cons ?s1 (steps_cons ?s2 (steps_cons ?s3 (steps_cons ?s4 (steps_cons ?s5 (steps_cons ?s6 (steps_cons ?s7 (steps_cons ?s8 (steps_cons ?s9 (steps_cons ?s10 (steps_cons ?s11 (steps_cons ?s12 (steps_cons ?s13 (steps_cons ?s14 (steps_cons ?s15 (steps_cons ?s16 (steps_cons ?s17 (steps_cons ?s18 (steps_cons ?s19 (steps_cons ?s20 (steps_cons ?s21 (steps_cons ?s22 (steps_cons ?s23 (steps_cons ?s24 (steps_cons ?s25 (steps_cons ?s26 (steps_cons ?s27 (steps_cons ?s28 (steps_cons ?s29 (steps_cons ?s30 (steps_cons ?s31 (steps_cons ?s32 (steps_cons ?s33 (steps_cons ?s34 (steps_cons ?s35 (steps_cons ?s36 (steps_cons ?s37 (steps_cons ?s38 (steps_cons ?s39 (steps_cons ?s40 (steps_cons ?s41 (steps_cons ?s42 (steps_cons ?s43 (steps_cons ?s44 (steps_cons ?s45 (steps_cons ?s46 (steps_cons ?s47 (steps_cons ?s48 (steps_nil)))))))))))))))))))))))))))))))))))))))))))))))))
   case s0 => exact step_move 2 31 rfl rfl (guard_none rfl) (by kernel_rfl) (fun v w h => h)
   case s1 => exact step_move 31 32 rfl rfl (guard_none rfl) (by kernel_rfl) (fun v w h => h)
   case s2 => exact StepOk.of (guard_true 1 32 rfl (by kernel_rfl) (by kernel_rfl) (fun v w h => h)) fun b w' hsz hW hl K hK => ld26 (keep_cell hW a0) (keep_cell hW a1) (keep_cell hW a2) (keep_cell hW a3) 1 rfl (look hl 1 (by kernel_rfl)) (hK _ _ (Below.refl _ _) (dst_eq rfl rfl))
   case s3 => exact step_call1 26 33 34 _ (by kernel_rfl) rfl rfl (guard_true 1 32 rfl (by kernel_rfl) (by kernel_rfl) (fun v w h => h)) (by kernel_rfl) (fun v w' hB' hv => by have hv : v = .agg #[.bool n1, .slice x1 l1 c1, .bool n2, .slice x2 l2 c2] := hv; subst hv; exact (text_qv (hA.next hB') (by decide) (by decide) (dec1 (-3) 3 (by decide) rfl) (dec1 2 2 (by decide) rfl) (by decide)).mono fun e w'' h => ⟨_, h.1, rfl, h.2⟩)
   case s4 =>
    refine StepOk.of (guard_true 1 32 rfl (by kernel_rfl) (by kernel_rfl) (fun v w h => h)) fun b w' hsz hW hl K hK => ?_
    clear hsz
    unfold Oper.wp
    have e34 : b.tmps[34]?.getD undef = .string ⟨#[45, 51, 47, 50]⟩ := getD' (look hl 34 (by kernel_rfl))
    go_simp
    exact hK _ _ (Below.refl _ _) (dst_eq rfl (by first | rfl | decide))
   case s5 => exact step_pick 32 35 36 (.const (.bool false)) rfl rfl (guard_none rfl) (by kernel_rfl) (by kernel_rfl) (fun v w h => h) (fun v w h => h)
   case s6 => exact step_move 36 37 rfl rfl (guard_none rfl) (by kernel_rfl) (fun v w h => h)
   case s7 => exact step_move 4 38 rfl rfl (guard_true 6 37 rfl (by kernel_rfl) (by kernel_rfl) (fun v w h => h)) (by kernel_rfl) (fun v w h => h)
   case s8 => exact step_pick 37 38 39 (.const (.bool false)) rfl rfl (guard_none rfl) (by kernel_rfl) (by kernel_rfl) (fun v w h => h) (fun v w h => h)
   case s9 => exact step_move 39 40 rfl rfl (guard_none rfl) (by kernel_rfl) (fun v w h => h)
   case s10 => exact StepOk.of (guard_true 9 40 rfl (by kernel_rfl) (by kernel_rfl) (fun v w h => h)) fun b w' hsz hW hl K hK => ld26 (keep_cell hW b0) (keep_cell hW b1) (keep_cell hW b2) (keep_cell hW b3) 3 rfl (look hl 3 (by kernel_rfl)) (hK _ _ (Below.refl _ _) (dst_eq rfl rfl))
   case s11 => exact step_call1 26 41 42 _ (by kernel_rfl) rfl rfl (guard_true 9 40 rfl (by kernel_rfl) (by kernel_rfl) (fun v w h => h)) (by kernel_rfl) (fun v w' hB' hv => by have hv : v = .agg #[.bool n3, .slice x3 l3 c3, .bool n4, .slice x4 l4 c4] := hv; subst hv; exact (text_qv (hB.next hB') (by decide) (by decide) (dec1 3 3 (by decide) rfl) (dec1 4 4 (by decide) rfl) (by decide)).mono fun e w'' h => ⟨_, h.1, rfl, h.2⟩)
   case s12 =>
    refine StepOk.of (guard_true 9 40 rfl (by kernel_rfl) (by kernel_rfl) (fun v w h => h)) fun b w' hsz hW hl K hK => ?_
    clear hsz
    unfold Oper.wp
    have e42 : b.tmps[42]?.getD undef = .string ⟨#[51, 47, 52]⟩ := getD' (look hl 42 (by kernel_rfl))
    go_simp
    exact hK _ _ (Below.refl _ _) (dst_eq rfl (by first | rfl | decide))
   case s13 => exact step_pick 40 43 44 (.const (.bool false)) rfl rfl (guard_none rfl) (by kernel_rfl) (by kernel_rfl) (fun v w h => h) (fun v w h => h)
   case s14 => exact step_move 44 45 rfl rfl (guard_none rfl) (by kernel_rfl) (fun v w h => h)
   case s15 => exact step_move 6 46 rfl rfl (guard_true 14 45 rfl (by kernel_rfl) (by kernel_rfl) (fun v w h => h)) (by kernel_rfl) (fun v w h => h)
   case s16 => exact step_pick 45 46 47 (.const (.bool false)) rfl rfl (guard_none rfl) (by kernel_rfl) (by kernel_rfl) (fun v w h => h) (fun v w h => h)
   case s17 => exact step_move 47 48 rfl rfl (guard_none rfl) (by kernel_rfl) (fun v w h => h)
   case s18 => exact StepOk.of (guard_true 17 48 rfl (by kernel_rfl) (by kernel_rfl) (fun v w h => h)) fun b w' hsz hW hl K hK => ld24 (keep_cell hW cc0) (keep_cell hW cc1) 5 rfl (look hl 5 (by kernel_rfl)) (hK _ _ (Below.refl _ _) (dst_eq rfl rfl))
   case s19 => exact step_call1 36 49 50 _ (by kernel_rfl) rfl rfl (guard_true 17 48 rfl (by kernel_rfl) (by kernel_rfl) (fun v w h => h)) (by kernel_rfl) (fun v w' hB' hv => by have hv : v = .agg #[.bool n5, .slice x5 l5 c5] := hv; subst hv; exact (Text_num (dec1 5 5 (by decide) rfl) (hC.next hB') (by decide)).mono fun e w'' h => ⟨_, h.1, congrArg Value.string tx3, h.2⟩)
   case s20 =>
    refine StepOk.of (guard_true 17 48 rfl (by kernel_rfl) (by kernel_rfl) (fun v w h => h)) fun b w' hsz hW hl K hK => ?_
    clear hsz
    unfold Oper.wp
    have e50 : b.tmps[50]?.getD undef = .string ⟨#[53]⟩ := getD' (look hl 50 (by kernel_rfl))
    go_simp
    exact hK _ _ (Below.refl _ _) (dst_eq rfl (by first | rfl | decide))
   case s21 => exact step_pick 48 51 52 (.const (.bool false)) rfl rfl (guard_none rfl) (by kernel_rfl) (by kernel_rfl) (fun v w h => h) (fun v w h => h)
   case s22 => exact step_move 52 53 rfl rfl (guard_none rfl) (by kernel_rfl) (fun v w h => h)
   case s23 => exact step_move 8 54 rfl rfl (guard_true 22 53 rfl (by kernel_rfl) (by kernel_rfl) (fun v w h => h)) (by kernel_rfl) (fun v w h => h)
   case s24 => exact step_pick 53 54 55 (.const (.bool false)) rfl rfl (guard_none rfl) (by kernel_rfl) (by kernel_rfl) (fun v w h => h) (fun v w h => h)
   case s25 => exact step_move 55 56 rfl rfl (guard_none rfl) (by kernel_rfl) (fun v w h => h)
   case s26 => exact StepOk.of (guard_true 25 56 rfl (by kernel_rfl) (by kernel_rfl) (fun v w h => h)) fun b w' hsz hW hl K hK => ld26 (keep_cell hW d0) (keep_cell hW d1) (keep_cell hW d2) (keep_cell hW d3) 7 rfl (look hl 7 (by kernel_rfl)) (hK _ _ (Below.refl _ _) (dst_eq rfl rfl))
   case s27 => exact step_call1 26 57 58 _ (by kernel_rfl) rfl rfl (guard_true 25 56 rfl (by kernel_rfl) (by kernel_rfl) (fun v w h => h)) (by kernel_rfl) (fun v w' hB' hv => by have hv : v = .agg #[.bool n6, .slice x6 l6 c6, .bool n7, .slice x7 l7 c7] := hv; subst hv; exact (text_qv (hD.next hB') (by decide) (by decide) (dec1 (-2) 2 (by decide) rfl) (dec1 1 1 (by decide) rfl) (by decide)).mono fun e w'' h => ⟨_, h.1, rfl, h.2⟩)
   case s28 =>
    refine StepOk.of (guard_true 25 56 rfl (by kernel_rfl) (by kernel_rfl) (fun v w h => h)) fun b w' hsz hW hl K hK => ?_
    clear hsz
    unfold Oper.wp
    have e58 : b.tmps[58]?.getD undef = .string ⟨#[45, 50, 47, 49]⟩ := getD' (look hl 58 (by kernel_rfl))
    go_simp
    exact hK _ _ (Below.refl _ _) (dst_eq rfl (by first | rfl | decide))
   case s29 => exact step_pick 56 59 60 (.const (.bool false)) rfl rfl (guard_none rfl) (by kernel_rfl) (by kernel_rfl) (fun v w h => h) (fun v w h => h)
   case s30 => exact step_move 60 61 rfl rfl (guard_none rfl) (by kernel_rfl) (fun v w h => h)
   case s31 => exact StepOk.of (guard_true 30 61 rfl (by kernel_rfl) (by kernel_rfl) (fun v w h => h)) fun b w' hsz hW hl K hK => ld26 (keep_cell hW a0) (keep_cell hW a1) (keep_cell hW a2) (keep_cell hW a3) 1 rfl (look hl 1 (by kernel_rfl)) (hK _ _ (Below.refl _ _) (dst_eq rfl rfl))
   case s32 => exact StepOk.of (guard_true 30 61 rfl (by kernel_rfl) (by kernel_rfl) (fun v w h => h)) fun b w' hsz hW hl K hK => ld26 (keep_cell hW b0) (keep_cell hW b1) (keep_cell hW b2) (keep_cell hW b3) 3 rfl (look hl 3 (by kernel_rfl)) (hK _ _ (Below.refl _ _) (dst_eq rfl rfl))
   case s33 => exact step_call2 24 62 63 64 _ (by kernel_rfl) rfl rfl (guard_true 30 61 rfl (by kernel_rfl) (by kernel_rfl) (fun v w h => h)) (by kernel_rfl) (by kernel_rfl) (fun u v w' hB' hu hv => by have hu : u = .agg #[.bool n1, .slice x1 l1 c1, .bool n2, .slice x2 l2 c2] := hu; have hv : v = .agg #[.bool n3, .slice x3 l3 c3, .bool n4, .slice x4 l4 c4] := hv; subst hu; subst hv; exact (Cmp_qv (hA.next hB') (hB.next hB') (by decide)).mono fun e w'' h => ⟨_, h.1, congrArg (Value.int .i64) tx5, h.2⟩)
   case s34 =>
    refine StepOk.of (guard_true 30 61 rfl (by kernel_rfl) (by kernel_rfl) (fun v w h => h)) fun b w' hsz hW hl K hK => ?_
    clear hsz
    unfold Oper.wp
    have e64 : b.tmps[64]?.getD undef = .int .i64 (-1) := getD' (look hl 64 (by kernel_rfl))
    go_simp
    exact hK _ _ (Below.refl _ _) (dst_eq rfl (by first | rfl | decide))
   case s35 => exact step_pick 61 65 66 (.const (.bool false)) rfl rfl (guard_none rfl) (by kernel_rfl) (by kernel_rfl) (fun v w h => h) (fun v w h => h)
   case s36 => exact step_move 66 67 rfl rfl (guard_none rfl) (by kernel_rfl) (fun v w h => h)
   case s37 => exact StepOk.of (guard_true 36 67 rfl (by kernel_rfl) (by kernel_rfl) (fun v w h => h)) fun b w' hsz hW hl K hK => ld26 (keep_cell hW a0) (keep_cell hW a1) (keep_cell hW a2) (keep_cell hW a3) 1 rfl (look hl 1 (by kernel_rfl)) (hK _ _ (Below.refl _ _) (dst_eq rfl rfl))
   case s38 => exact StepOk.of (guard_true 36 67 rfl (by kernel_rfl) (by kernel_rfl) (fun v w h => h)) fun b w' hsz hW hl K hK => ld26 (keep_cell hW b0) (keep_cell hW b1) (keep_cell hW b2) (keep_cell hW b3) 3 rfl (look hl 3 (by kernel_rfl)) (hK _ _ (Below.refl _ _) (dst_eq rfl rfl))
   case s39 => exact step_call2 16 68 69 70 _ (by kernel_rfl) rfl rfl (guard_true 36 67 rfl (by kernel_rfl) (by kernel_rfl) (fun v w h => h)) (by kernel_rfl) (by kernel_rfl) (fun u v w' hB' hu hv => by have hu : u = .agg #[.bool n1, .slice x1 l1 c1, .bool n2, .slice x2 l2 c2] := hu; have hv : v = .agg #[.bool n3, .slice x3 l3 c3, .bool n4, .slice x4 l4 c4] := hv; subst hu; subst hv; exact (Add_qv (hA.next hB') (hB.next hB') (by decide)).mono fun e w'' ⟨t, h1, h2, h3⟩ => ⟨_, h1, h2, h3⟩)
   case s40 => exact StepOk.of (guard_true 36 67 rfl (by kernel_rfl) (by kernel_rfl) (fun v w h => h)) fun b w' hsz hW hl K hK => ld26 (keep_cell hW a0) (keep_cell hW a1) (keep_cell hW a2) (keep_cell hW a3) 1 rfl (look hl 1 (by kernel_rfl)) (hK _ _ (Below.refl _ _) (dst_eq rfl rfl))
   case s41 => exact StepOk.of (guard_true 36 67 rfl (by kernel_rfl) (by kernel_rfl) (fun v w h => h)) fun b w' hsz hW hl K hK => ld26 (keep_cell hW b0) (keep_cell hW b1) (keep_cell hW b2) (keep_cell hW b3) 3 rfl (look hl 3 (by kernel_rfl)) (hK _ _ (Below.refl _ _) (dst_eq rfl rfl))
   case s42 => exact step_call1 22 72 73 _ (by kernel_rfl) rfl rfl (guard_true 36 67 rfl (by kernel_rfl) (by kernel_rfl) (fun v w h => h)) (by kernel_rfl) (fun v w' hB' hv => by have hv : v = .agg #[.bool n3, .slice x3 l3 c3, .bool n4, .slice x4 l4 c4] := hv; subst hv; exact (Neg_qv (hB.next hB') (by decide)).mono fun e w'' ⟨t, h1, h2, h3⟩ => ⟨_, h1, h2, h3⟩)
   case s43 => exact step_call2 20 71 73 74 _ (by kernel_rfl) rfl rfl (guard_true 36 67 rfl (by kernel_rfl) (by kernel_rfl) (fun v w h => h)) (by kernel_rfl) (by kernel_rfl) (fun u v w' hB' hu hv => by have hu : u = .agg #[.bool n1, .slice x1 l1 c1, .bool n2, .slice x2 l2 c2] := hu; subst hu; exact (Mul_qv ((hA.next hB').more (k := 22) (by decide)) (show Qv w' v (-3) 4 22 from hv) (by decide)).mono fun e w'' ⟨t, h1, h2, h3⟩ => ⟨_, h1, h2, h3⟩)
   case s44 => exact step_call2 18 70 74 75 _ (by kernel_rfl) rfl rfl (guard_true 36 67 rfl (by kernel_rfl) (by kernel_rfl) (fun v w h => h)) (by kernel_rfl) (by kernel_rfl) (fun u v w' hB' hu hv => (Sub_qv ((show Qv w' u (-6) 8 47 from hu).more (k := 50) (by decide)) (show Qv w' v 9 8 50 from hv) (by decide)).mono fun e w'' ⟨t, h1, h2, h3⟩ => ⟨_, h1, (h2.to (by decide) (by decide) : Qv w'' t (-15) 8 107), h3⟩)
   case s45 => exact step_call1 26 75 76 _ (by kernel_rfl) rfl rfl (guard_true 36 67 rfl (by kernel_rfl) (by kernel_rfl) (fun v w h => h)) (by kernel_rfl) (fun v w' hB' hv => (text_qv (show Qv w' v (-15) 8 107 from hv) (by decide) (by decide) dec15 (dec1 8 8 (by decide) rfl) (by decide)).mono fun e w'' h => ⟨_, h.1, rfl, h.2⟩)
   case s46 =>
    refine StepOk.of (guard_true 36 67 rfl (by kernel_rfl) (by kernel_rfl) (fun v w h => h)) fun b w' hsz hW hl K hK => ?_
    clear hsz
    unfold Oper.wp
    have e76 : b.tmps[76]?.getD undef = .string ⟨#[45, 49, 53, 47, 56]⟩ := getD' (look hl 76 (by kernel_rfl))
    go_simp
    exact hK _ _ (Below.refl _ _) (dst_eq rfl (by first | rfl | decide))
   case s47 => exact step_pick 67 77 78 (.const (.bool false)) rfl rfl (guard_none rfl) (by kernel_rfl) (by kernel_rfl) (fun v w h => h) (fun v w h => h)
   case s48 => exact step_assign 78 0 rfl rfl (guard_none rfl) (by kernel_rfl) (fun v w h => h)
  case hend =>
   intro b w' hs hd hW hv
   have h0 : b.tmps.getD 0 undef = .bool true := hv 0 (.inr ⟨48, _, rfl, rfl⟩)
   rw [Array.getD_eq_getD_getElem?] at h0
   go_wp2
   exact bodyPost_ret (v := .bool true) (by simp [results, Tryz.results6, go_sem, h0]) hd ⟨rfl, bthen z4 hW⟩
end Go.Proofs.YthiiglhecajhbaaGreat
