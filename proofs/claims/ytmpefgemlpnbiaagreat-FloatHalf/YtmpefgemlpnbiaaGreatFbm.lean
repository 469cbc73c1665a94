/- scale and Parse at the literal 0x1.8p-1. -/
import Derived.Test.YtmpefgemlpnbiaaGreatFem
import Derived.Test.YtmpefgemlpnbiaaGreatFr
import Derived.Test.YtmpefgemlpnbiaaGreatFim
namespace Go.Proofs.YtmpefgemlpnbiaaGreat
open Go.RowKit
attribute [local go_sem ↓] Go.wp_at_zero Go.wp_at_succ
theorem outE_tight {w : World} {v : Value} {z : Int} {n : Nat} (h : OutE w v z n) (k : Nat) (hz : -(4294967296 ^ k) < z ∧ z < 4294967296 ^ k) : OutE w v z k := by
  obtain ⟨b, neg, a, cap, ds, r1, r2, r3, r4, r5⟩ := h
  refine ⟨b, neg, a, cap, ds, r1, r2, r3, r4, nrm_len (B := 4294967296) (by decide) r2.row.words r3.1 ?_⟩
  cases neg <;> simp [num] at r4 <;> omega
set_option maxRecDepth 20000 in
set_option maxHeartbeats 4000000 in
theorem scale_lit {w : World} {u : Value} {m : Nat} (hu : Num w u 24 m) (hm : m ≤ 190) :
    Calls Tryz.prog 89 #[u, .int .i64 2, .int .i64 (-5)] w fun e w' => ∃ t, e = .returned t ∧ LowE w' t 24 32 (m + 4) ∧ Below w.heap.size w w' := by
  obtain ⟨n1, a1, l1, c1, rfl⟩ := hu.form
  obtain ⟨W, hW, hbW, ⟨e0, e1⟩, x0⟩ := boxes_whole w n1 a1 l1 c1
  have hU := hu.next hbW
  have hD0 : Below W.heap.size W W.drew := (Below.refl _ _).drew
  have kR := fun w => (raise_num 2 5 w (by decide) (by decide) (by decide))
  replace kR := (show Hid _ from kR)
  go_enter Tryz.func89, Tryz.ntmps89
  go_wp2
  rw [← hW]
  clear hW
  go_region_with (first
    | (go_at_call 118; refine Calls.mono (kR.out _) ?_; rintro e w2 ⟨t, rfl, hO9, hb2⟩; have hO := outE_tight hO9 2 (by decide); clear hO9; obtain ⟨n3, a3, l3, c3, rfl⟩ := hO.num.form; have hB2 : Below W.heap.size W w2 := bthen hD0 hb2; have p0 := keep_cell hB2 e0; have p1 := keep_cell hB2 e1)
    | (go_at_call 90; refine (lowest_pos (Num.frac ((hU.next hB2).more' (m := m + 2) (by omega)) (hO.num.more' (m := m + 2) (by omega)) rfl rfl) (by omega) (by decide)).mono ?_; rintro e w3 ⟨t, rfl, hL, hb3⟩; obtain ⟨n4, a4, l4, c4, n5, a5, l5, c5, rfl⟩ := hL.form; have hB3 : Below W.heap.size W w3 := bthen hB2 hb3; have y0 := x0.next hB3; obtain ⟨_, _, _, _, _, _, _, _, j0, j1, j2, j3, f⟩ := y0.cells; have f0 := f 0; have f1 := f 1; have f2 := f 2; have f3 := f 3; clear f))
  all_goals
    have hbx : Hid _ := put4_boxed (base := w.heap.size) y0.noint (by omega) n4 a4 l4 c4 n5 a5 l5 c5
    have hBf := bthen hbW hB3
    have hLf : Hid _ := hbx.out.lowE hL
    clear hO hL hU hb2 hb3 hB2 hB3
    go_wp2
    exact bodyPost_ret (v := .agg #[.bool n4, .slice a4 l4 c4, .bool n5, .slice a5 l5 c5]) (by simp [results, Tryz.results89, go_sem, j0, j1, j2, j3]) rfl ⟨_, rfl, hLf.out, hbx.out.keep hBf (Nat.le_refl _) hBf.size⟩
theorem floatForm_lit (w : World) : Calls Tryz.prog 85 #[.int .i64 16, .bool true] w fun e w' => e = .returned (.bool true) ∧ Below w.heap.size w w' := by
  go_enter Tryz.func85, Tryz.ntmps85
  go_wp2
  go_ret
  exact ⟨rfl, Below.refl _ _⟩
set_option maxRecDepth 20000 in
set_option maxHeartbeats 4000000 in
theorem parse_lit (w : World) : Calls Tryz.prog 47 #[.string ⟨#[48, 120, 49, 46, 56, 112, 45, 49]⟩] w fun e w' => ∃ t, e = .returned (.tuple #[t, .bool true]) ∧ LowE w' t 24 32 10 ∧ Below w.heap.size w w' := by
  have x0 := Box4.new w false none 0 0 false none 0 0 26 (by decide)
  have hbW : Below w.heap.size w (w.alloc (.cells #[.bool false, .slice none 0 0, .bool false, .slice none 0 0] 26)) := (Below.refl _ _).alloc (Nat.le_refl _) _
  obtain ⟨W, hW⟩ : ∃ W, W = w.alloc (.cells #[.bool false, .slice none 0 0, .bool false, .slice none 0 0] 26) := ⟨_, rfl⟩
  have hlt : w.heap.size < W.heap.size := by rw [hW]; simp
  rw [← hW] at x0 hbW
  have k1 := cutBase_lit W
  replace k1 := (show Hid _ from k1)
  have e1 : (⟨#[49]⟩ : ByteArray) ++ ⟨#[56]⟩ = ⟨#[49, 56]⟩ := by decide
  go_enter Tryz.func47, Tryz.ntmps47
  go_upto_region 1 with fail
  rw [← hW]
  clear hW
  go_wp2_with fail
  refine Calls.mono k1.out ?_
  rintro e w1 ⟨rfl, b1⟩
  go_wp2_with fail
  refine Calls.mono (cutExponent_lit w1) ?_
  rintro e w2 ⟨rfl, b2⟩
  go_wp2_with fail
  refine Calls.mono (cut_lit w2) ?_
  rintro e w3 ⟨rfl, b3⟩
  go_wp2_with fail
  refine Calls.mono (floatForm_lit w3) ?_
  rintro e w4 ⟨rfl, b4⟩
  go_wp2_with fail
  refine Calls.mono (parse_18 w4) ?_
  rintro e w5 ⟨v5, rfl, hO, b5⟩
  have b15 := bthen b1 (bthen b2 (bthen b3 (bthen b4 b5)))
  obtain ⟨n3, a3, l3, c3, rfl⟩ := hO.num.form
  obtain ⟨W5, hW5⟩ : ∃ W5, W5 = w5.alloc (.cells #[.bool n3, .slice a3 l3 c3] 24) := ⟨_, rfl⟩
  have b6 : Below w5.heap.size w5 W5 := by rw [hW5]; exact (Below.refl _ _).alloc (Nat.le_refl _) _
  have g0 : W5.cell? ⟨w5.heap.size, 0, none⟩ = some (.bool n3) := by rw [hW5]; simp [go_sem]
  have g1 : W5.cell? ⟨w5.heap.size, 1, none⟩ = some (.slice a3 l3 c3) := by rw [hW5]; simp [go_sem]
  have hO5 := hO.num.next b6
  go_upto_region 9 with fail
  rw [← hW5]
  clear hW5 hO
  go_wp2_with fail
  refine Calls.mono (parseExponent_lit W5) ?_
  rintro e w6 ⟨rfl, b7⟩
  have h0 := keep_cell b7 g0
  have h1 := keep_cell b7 g1
  go_wp2_with fail
  refine Calls.mono (scale_lit (hO5.next b7) (by decide)) ?_
  rintro e w7 ⟨t, rfl, hL, b8⟩
  have b18 := bthen b15 (bthen b6 (bthen b7 b8))
  obtain ⟨n4, a4, l4, c4, n5, a5, l5, c5, rfl⟩ := hL.form
  have y0 := x0.next b18
  obtain ⟨_, _, _, _, _, _, _, _, j0, j1, j2, j3, f⟩ := y0.cells
  have f0 := f 0
  have f1 := f 1
  have f2 := f 2
  have f3 := f 3
  clear f
  have hbx : Hid _ := put4_boxed (base := w.heap.size) y0.noint (by omega) n4 a4 l4 c4 n5 a5 l5 c5
  have hBf := bthen hbW b18
  have hLf : Hid _ := hbx.out.lowE hL
  clear hL hO5 b15 b18 b1 b2 b3 b4 b5 b6 b7 b8 k1
  go_wp2
  exact bodyPost_ret (v := .tuple #[.agg #[.bool n4, .slice a4 l4 c4, .bool n5, .slice a5 l5 c5], .bool true]) (by simp [results, Tryz.results47, go_sem, j0, j1, j2, j3]) rfl ⟨_, rfl, by obtain ⟨p, q, h1, h2⟩ := hLf.out; exact ⟨p, q, h1.more (by omega), h2⟩, hbx.out.keep hBf (Nat.le_refl _) hBf.size⟩
end Go.Proofs.YtmpefgemlpnbiaaGreat
namespace Go.Proofs.YtmpefgemlpnbiaaGreat
open Go.RowKit
attribute [local go_sem ↓] Go.wp_at_zero Go.wp_at_succ
theorem getD' {a : Array Value} {t : Nat} {v : Value} (h : a.getD t undef = v) : a[t]?.getD undef = v := by rwa [Array.getD_eq_getD_getElem?] at h
theorem decs_uniq {y : Int} {ds es : List Int} (h : Decs y ds) (k : Decs y es) : ds = es := by
  by_cases e : y = 0
  · rw [h.2.2.2.2 e, k.2.2.2.2 e]
  · exact nrm_unique (B := 10) (by decide) h.1 k.1 (h.2.2.2.1 e) (k.2.2.2.1 e) (by rw [h.2.2.1, k.2.2.1])
theorem low_uniq {p q x y : Int} (hq : 0 < q) (hy : 0 < y) (h1 : Nat.gcd p.natAbs q.natAbs = 1) (h2 : Nat.gcd x.natAbs y.natAbs = 1) (e : p * y = x * q) : p = x ∧ q = y := by
  have e' : p.natAbs * y.natAbs = x.natAbs * q.natAbs := by rw [← Int.natAbs_mul, ← Int.natAbs_mul, e]
  have d1 : q.natAbs ∣ y.natAbs := Nat.Coprime.dvd_of_dvd_mul_left (m := p.natAbs) (by unfold Nat.Coprime; rw [Nat.gcd_comm]; exact h1) (by rw [e']; exact Nat.dvd_mul_left _ _)
  have d2 : y.natAbs ∣ q.natAbs := Nat.Coprime.dvd_of_dvd_mul_left (m := x.natAbs) (by unfold Nat.Coprime; rw [Nat.gcd_comm]; exact h2) (by rw [← e']; exact Nat.dvd_mul_left _ _)
  have e3 := Nat.dvd_antisymm d1 d2
  have e4 : q = y := by omega
  subst e4
  exact ⟨Int.eq_of_mul_eq_mul_right (by omega) e, rfl⟩
theorem text_qv {w : World} {v : Value} {x y : Int} {m : Nat} (h : Qv w v x y m) (hm : m ≤ 200) (hg : Nat.gcd x.natAbs y.natAbs = 1) {ds es : List Int} (hd : Decs x ds) (he : Decs y es) {s : ByteArray} (hs : txt (decide (x < 0)) ds ++ { data := #[47] } ++ txt (decide (y < 0)) es = s) :
    Calls Tryz.prog 48 #[v] w fun e w' => e = .returned (.string s) ∧ Below w.heap.size w w' := by
  obtain ⟨hy, n, d, hF, hx⟩ := h
  refine (Text26_num hF hm).mono ?_
  rintro e w' ⟨p, q, ds', es', ⟨hq, hpq, hl⟩, hp, hq', rfl, hb⟩
  have hD := pD_pos d
  have e1 : p * y = x * q := by
    have : p * y * pD d = x * q * pD d := by
      have a1 : p * y * pD d = p * pD d * y := by grind
      rw [a1, hl]
      have a2 : pN n d * q * y = pN n d * y * q := by grind
      rw [a2, hx]
      grind
    exact Int.eq_of_mul_eq_mul_right (by omega) this
  obtain ⟨rfl, rfl⟩ := low_uniq hq hy hpq hg e1
  rw [decs_uniq hp hd, decs_uniq hq' he, hs]
  exact ⟨rfl, hb⟩
theorem dec1 (y : Int) (d : Int) (h : 0 < d ∧ d < 10) (e : (y.natAbs : Int) = d) : Decs y [d] :=
  ⟨Words.one ⟨by omega, h.2⟩, by simp, by rw [e]; simp [val], fun _ => ⟨fun _ => by omega, trivial⟩, fun h0 => by subst h0; simp at e; omega⟩
theorem tx3 : txt (decide ((5 : Int) < 0)) [5] = ⟨#[53]⟩ := by decide
theorem tx5 : cmpI (-3 * 4) (3 * 2) = -1 := by decide
theorem dec15 : Decs (-15) [5, 1] := ⟨by intro z hz; simp at hz; omega, by simp, by decide, fun _ => ⟨fun h => by simp at h, fun _ => by decide, trivial⟩, fun h0 => by cases h0⟩
end Go.Proofs.YtmpefgemlpnbiaaGreat
